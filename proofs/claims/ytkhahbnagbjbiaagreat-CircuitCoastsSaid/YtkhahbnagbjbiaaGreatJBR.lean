import Derived.Test.YtkhahbnagbjbiaaGreatJBI
import Derived.Test.YtkhahbnagbjbiaaGreatJBM
import Derived.Test.YtkhahbnagbjbiaaGreatRows
import Derived.KernelRfl
import Derived.Laws.StructEq
section
/- The specification of layer 3: Copy, over this seat's translation (written by ax_ci26.py). -/
namespace Go.Proofs.YtkhahbnagbjbiaaGreat
set_option linter.unusedVariables false
set_option linter.unusedSimpArgs false
open Go.RowKit

theorem kcp_bl_apiState_0_ (a0 : Value) (ha0 : a0.oneCell' = true) : ∀ w, (Instr.build 35 #[(0, a0)]).run Tryz.prog w = .ok (.agg #[a0, (.slice none 0 0), (.slice none 0 0), (.slice none 0 0), (.slice none 0 0), (.slice none 0 0)]) w := by
  have ea0 : a0.cells = #[a0] := cells_one ha0
  intro w; simp [Instr.build, Instr.fill, cells_agg, Tryz.runUnderlying35, Tryz.zeroValue35, Tryz.sizeOf3, Tryz.sizeOf30, Tryz.sizeOf32, Tryz.sizeOf33, ea0]

theorem kcp_bs_int_0_ : ∀ w, (Instr.buildSlice 30 0 #[]).run Tryz.prog w = .ok (.slice (some ⟨w.heap.size, 0, none⟩) 0 0) (w.alloc (.cells [].toArray 3)) := by
  intro w; (simp [Instr.buildSlice, Instr.fill, cells_agg, newRow, Tryz.runUnderlying30, Tryz.zeroValue3, Tryz.sizeOf3] <;> (rw [(by kernel_rfl : Array.range 0 = #[])]; simp [Value.cells]))

theorem kcp_bl_apiCurrents_0_1_2 (a0 a1 a2 : Value) (ha0 : a0.oneCell' = true) (ha1 : a1.oneCell' = true) (ha2 : a2.oneCell' = true) : ∀ w, (Instr.build 32 #[(0, a0), (1, a1), (2, a2)]).run Tryz.prog w = .ok (.agg #[a0, a1, a2]) w := by
  have ea0 : a0.cells = #[a0] := cells_one ha0
  have ea1 : a1.cells = #[a1] := cells_one ha1
  have ea2 : a2.cells = #[a2] := cells_one ha2
  intro w; simp [Instr.build, Instr.fill, cells_agg, Tryz.runUnderlying32, Tryz.zeroValue32, Tryz.sizeOf30, ea0, ea1, ea2]

theorem kcp_bs_bool_0_ : ∀ w, (Instr.buildSlice 33 0 #[]).run Tryz.prog w = .ok (.slice (some ⟨w.heap.size, 0, none⟩) 0 0) (w.alloc (.cells [].toArray 4)) := by
  intro w; (simp [Instr.buildSlice, Instr.fill, cells_agg, newRow, Tryz.runUnderlying33, Tryz.zeroValue4, Tryz.sizeOf4] <;> (rw [(by kernel_rfl : Array.range 0 = #[])]; simp [Value.cells]))

set_option maxRecDepth 100000 in
theorem rcopy_any (RS : StR) (S : StD) (w : World) (hS : IsS w RS S) (k1 : RS.Q.la ≤ 100000) (k2 : RS.Q.lb ≤ 100000) (k3 : RS.Q.lc ≤ 100000) (k4 : RS.lh ≤ 100000) (k5 : RS.lt ≤ 100000) : Calls Tryz.prog 37 #[(RS.v S.tick)] w (fun e w' => ∃ x : StR, e = .returned (x.v S.tick) ∧ IsS w' x S ∧ x.All (fun b => w.heap.size ≤ b) ∧ Below w.heap.size w w') := by
  have n1 := hS.cur.coils.1
  have n2 := hS.cur.shells.1
  have n3 := hS.cur.plasma.1
  have n4 := hS.heat.1
  have n5 := hS.trip.1
  refine calls_ax (vs := [(RS.v S.tick)]) Tryz.func37 rfl rfl ?_
  refine ac_seq ?_
  refine ac_region ?_
  refine al_new (fun b => .pointer (some ⟨b, 0, none⟩)) (r_box rfl rfl) rfl rfl rfl ?_
  intro b1
  refine al_new (fun b => .pointer (some ⟨b, 0, none⟩)) (r_alloc Tryz.zeroValue35 rfl) rfl rfl rfl ?_
  intro b2
  refine al_end ?_
  refine aq_then ?_
  refine ac_seq ?_
  refine ac_region ?_
  refine al_q (q_fieldAddr 0 rfl Tryz.runUnderlying35 rfl Tryz.sizeOf3 (by decide) rfl) rfl rfl rfl ?_
  refine al_q (q_load (i := 1) rfl rfl rfl Tryz.isAgg3) rfl rfl rfl ?_
  refine al_q (q_build (.cons rfl .nil) (kcp_bl_apiState_0_ _ rfl)) rfl rfl rfl ?_
  refine al_new (fun b => .pointer (some ⟨b, 0, none⟩)) (r_alloc Tryz.zeroValue35 rfl) rfl rfl rfl ?_
  intro b3
  refine al_storeAll (i := 0) rfl rfl rfl rfl Tryz.sizeOf35 rfl rfl .k0 rfl ?_
  refine al_end ?_
  refine aq_then ?_
  refine ac_seq ?_
  refine ac_draw 17 (by kernel_rfl) (by kernel_rfl) ?_
  refine ah_share (fuel' := 4) (listed' := #[true, true, true, true, true, true, true, true, true, true, true, true, true, true, false, false, false, false]) (fun K => ∀ (b1001 : Nat), ∀ (b4001 : Nat), ∀ (c_b4001 : Nat), ∀ (sp_b4001 : List Value), ∀ (hc_b4001 : 0 + RS.Q.la ≤ c_b4001), ∀ (hk_b4001 : c_b4001 ≤ 9223372036854775807), ∀ (b11001 : Nat), ∀ (b18001 : Nat), ∀ (c_b18001 : Nat), ∀ (sp_b18001 : List Value), ∀ (hc_b18001 : 0 + RS.Q.lb ≤ c_b18001), ∀ (hk_b18001 : c_b18001 ≤ 9223372036854775807), ∀ (b22001 : Nat), K [(1, (.pointer (some ⟨b1, 0, none⟩))), (2, (.pointer (some ⟨b2, 0, none⟩))), (3, (.pointer (some ⟨b3, 0, none⟩))), (7, (.slice (some ⟨b1001, 0, none⟩) 0 0)), (8, (.pointer (some ⟨b1, 1, none⟩))), (9, (.pointer (some ⟨b1, 1, none⟩))), (10, (.slice RS.Q.A RS.Q.la RS.Q.ca)), (11, (.slice (some ⟨b4001, 0, none⟩) (0 + RS.Q.la) c_b4001)), (12, (.slice (some ⟨b11001, 0, none⟩) 0 0)), (13, (.pointer (some ⟨b1, 1, none⟩))), (14, (.pointer (some ⟨b1, 2, none⟩))), (15, (.slice RS.Q.B RS.Q.lb RS.Q.cb)), (16, (.slice (some ⟨b18001, 0, none⟩) (0 + RS.Q.lb) c_b18001)), (17, (.slice (some ⟨b22001, 0, none⟩) 0 0)), (18, (.pointer (some ⟨b1, 1, none⟩))), (19, (.pointer (some ⟨b1, 3, none⟩))), (20, (.slice RS.Q.C RS.Q.lc RS.Q.cc))] [(b22001, .cells []), (b18001, .cells (([] ++ (S.C.shells.flatMap intCells)) ++ sp_b18001)), (b4001, .cells (([] ++ (S.C.coils.flatMap intCells)) ++ sp_b4001)), (b3, .cells [(.int .i64 S.tick), (.slice none 0 0), (.slice none 0 0), (.slice none 0 0), (.slice none 0 0), (.slice none 0 0)]), (b2, .cells [(.int .i64 0), (.slice none 0 0), (.slice none 0 0), (.slice none 0 0), (.slice none 0 0), (.slice none 0 0)]), (b1, .cells [(.int .i64 S.tick), (.slice RS.Q.A RS.Q.la RS.Q.ca), (.slice RS.Q.B RS.Q.lb RS.Q.cb), (.slice RS.Q.C RS.Q.lc RS.Q.cc), (.slice RS.H RS.lh RS.ch), (.slice RS.T RS.lt RS.ct)])]) ?_ (fun hS1_0 => ?_)
  · intro b1001 b4001 c_b4001 sp_b4001 hc_b4001 hk_b4001 b11001 b18001 c_b18001 sp_b18001 hc_b18001 hk_b18001 b22001
    refine ah_one 14 rfl (by kernel_rfl) (fun hok1 hcl1 => ?_)
    refine al_appendS (i := 0) (z := 1) (bytes := 8) (zv := (.int .i64 0)) (xs := []) (sp := []) (vs := (S.C.plasma.flatMap intCells)) rfl rfl (by simp) (by simp) (by omega) (by omega) rfl (Sor.list (enc := intCells) (zs := S.C.plasma) (fun _ => rfl) (fun _ => rfl) hS.cur.plasma.1 (fun w9 hs => hS.cur.plasma.below hs.below)) Tryz.underlying30 (by kernel_rfl) rfl (by omega) (by decide) rfl rfl (fun b4 c_b4 sp_b4 hc_b4 hk_b4 hl_b4 => ?_)
    refine ⟨_, .k0, ?_⟩
    refine al_end (ah_back hok1 hcl1 (fun w9 hs => (hs.tail 3 rfl)) ?_)
    refine ah_take 15 (fun w9 hs => (hs.tail 3 rfl)) rfl rfl rfl (by kernel_rfl) (by kernel_rfl) (by kernel_rfl) (fun _ _ _ h => h) rfl (q_build (.cons rfl (.cons rfl (.cons rfl .nil))) (kcp_bl_apiCurrents_0_1_2 _ _ _ rfl rfl rfl)) ?_
    refine ah_take 16 (fun w9 hs => (hs.tail 3 rfl)) rfl rfl rfl (by kernel_rfl) (by kernel_rfl) (by kernel_rfl) (fun _ _ _ h => h) rfl (q_fieldAddr 1 rfl Tryz.runUnderlying35 rfl Tryz.sizeOf32 (by decide) rfl) ?_
    refine ah_one 17 rfl (by kernel_rfl) (fun hok2 hcl2 => ?_)
    refine al_storeSub (i := 3) rfl rfl rfl Tryz.sizeOf32 rfl (.s (.z (.s (.s (.s (.z)))))) rfl .k3 rfl ?_
    refine al_end (ah_last (by kernel_rfl) ?_)
    refine aq_then ?_
    refine ac_seq ?_
    refine ac_region ?_
    refine al_new (fun b => .slice (some ⟨b, 0, none⟩) 0 0) (r_buildSlice .nil (kcp_bs_int_0_)) rfl rfl rfl ?_
    intro b5
    refine al_q (q_fieldAddr 4 rfl Tryz.runUnderlying35 rfl Tryz.sizeOf30 (by decide) rfl) rfl rfl rfl ?_
    refine al_q (q_load (i := 6) rfl rfl rfl Tryz.isAgg30) rfl rfl rfl ?_
    refine al_appendS (i := 0) (z := 1) (bytes := 8) (zv := (.int .i64 0)) (xs := []) (sp := []) (vs := (S.heat.flatMap intCells)) rfl rfl (by simp) (by simp) (by omega) (by omega) rfl (Sor.list (enc := intCells) (zs := S.heat) (fun _ => rfl) (fun _ => rfl) hS.heat.1 (fun w9 hs => hS.heat.below hs.below)) Tryz.underlying30 (by kernel_rfl) rfl (by omega) (by decide) rfl rfl (fun b6 c_b6 sp_b6 hc_b6 hk_b6 hl_b6 => ?_)
    refine ⟨_, .k0, ?_⟩
    refine al_q (q_fieldAddr 4 rfl Tryz.runUnderlying35 rfl Tryz.sizeOf30 (by decide) rfl) rfl rfl rfl ?_
    refine al_store1 (i := 4) rfl rfl rfl rfl Tryz.sizeOf30 .k4 .k4 rfl ?_
    refine al_end ?_
    refine aq_then ?_
    refine ac_seq ?_
    refine ac_region ?_
    refine al_new (fun b => .slice (some ⟨b, 0, none⟩) 0 0) (r_buildSlice .nil (kcp_bs_bool_0_)) rfl rfl rfl ?_
    intro b7
    refine al_q (q_fieldAddr 5 rfl Tryz.runUnderlying35 rfl Tryz.sizeOf33 (by decide) rfl) rfl rfl rfl ?_
    refine al_q (q_load (i := 7) rfl rfl rfl Tryz.isAgg33) rfl rfl rfl ?_
    refine al_appendS (i := 0) (z := 1) (bytes := 1) (zv := (.bool false)) (xs := []) (sp := []) (vs := (S.trip.flatMap boolCells)) rfl rfl (by simp) (by simp) (by omega) (by omega) rfl (Sor.list (enc := boolCells) (zs := S.trip) (fun _ => rfl) (fun _ => rfl) hS.trip.1 (fun w9 hs => hS.trip.below hs.below)) Tryz.underlying33 (by kernel_rfl) rfl (by omega) (by decide) rfl rfl (fun b8 c_b8 sp_b8 hc_b8 hk_b8 hl_b8 => ?_)
    refine ⟨_, .k0, ?_⟩
    refine al_q (q_fieldAddr 5 rfl Tryz.runUnderlying35 rfl Tryz.sizeOf33 (by decide) rfl) rfl rfl rfl ?_
    refine al_store1 (i := 5) rfl rfl rfl rfl Tryz.sizeOf33 .k5 .k5 rfl ?_
    refine al_end ?_
    refine aq_then ?_
    refine ac_seq ?_
    refine ac_region ?_
    refine al_q (q_loadAll (i := 5) rfl rfl Tryz.isAgg35 Tryz.sizeOf35 rfl) rfl rfl rfl ?_
    refine al_storeAll (i := 6) rfl rfl rfl rfl Tryz.sizeOf35 rfl rfl .k6 rfl ?_
    refine al_end ?_
    refine aq_then ?_
    refine ac_ret ?_
    refine retR Tryz.results37 (.agg (i := 6) rfl rfl Tryz.isAgg35 Tryz.sizeOf35 rfl .nil) .one (fun w9 hs => ?_)
    have NA : NewT 1 intCells w.heap.size w9 (some ⟨b4001, 0, none⟩) (0 + RS.Q.la) c_b4001 S.C.coils := ⟨isT_box (n := 1) (enc := intCells) (zs := S.C.coils) (fun _ => rfl) (hs.at 4 rfl) (by simp) (by omega), fun b off e => hs.new 4 rfl b off e, by omega, hk_b4001⟩
    have NB : NewT 1 intCells w.heap.size w9 (some ⟨b18001, 0, none⟩) (0 + RS.Q.lb) c_b18001 S.C.shells := ⟨isT_box (n := 1) (enc := intCells) (zs := S.C.shells) (fun _ => rfl) (hs.at 3 rfl) (by simp) (by omega), fun b off e => hs.new 3 rfl b off e, by omega, hk_b18001⟩
    have NC : NewT 1 intCells w.heap.size w9 (some ⟨b4, 0, none⟩) (0 + RS.Q.lc) c_b4 S.C.plasma := ⟨isT_box (n := 1) (enc := intCells) (zs := S.C.plasma) (fun _ => rfl) (hs.at 2 rfl) (by simp) (by omega), fun b off e => hs.new 2 rfl b off e, by omega, hk_b4⟩
    have ND : NewT 1 intCells w.heap.size w9 (some ⟨b6, 0, none⟩) (0 + RS.lh) c_b6 S.heat := ⟨isT_box (n := 1) (enc := intCells) (zs := S.heat) (fun _ => rfl) (hs.at 1 rfl) (by simp) (by omega), fun b off e => hs.new 1 rfl b off e, by omega, hk_b6⟩
    have NE : NewT 1 boolCells w.heap.size w9 (some ⟨b8, 0, none⟩) (0 + RS.lt) c_b8 S.trip := ⟨isT_box (n := 1) (enc := boolCells) (zs := S.trip) (fun _ => rfl) (hs.at 0 rfl) (by simp) (by omega), fun b off e => hs.new 0 rfl b off e, by omega, hk_b8⟩
    exact ⟨⟨⟨some ⟨b4001, 0, none⟩, some ⟨b18001, 0, none⟩, some ⟨b4, 0, none⟩, 0 + RS.Q.la, c_b4001, 0 + RS.Q.lb, c_b18001, 0 + RS.Q.lc, c_b4⟩, some ⟨b6, 0, none⟩, some ⟨b8, 0, none⟩, 0 + RS.lh, c_b6, 0 + RS.lt, c_b8⟩, rfl, ⟨⟨NA.isT, NB.isT, NC.isT, NA.le.1, NB.le.1, NC.le.1, NA.le.2, NB.le.2, NC.le.2, by simp only; omega, by simp only; omega, by simp only; omega⟩, ND.isT, NE.isT, ND.le.1, NE.le.1, ND.le.2, NE.le.2, by simp only; omega, by simp only; omega⟩, ⟨NA.new, NB.new, NC.new, ND.new, NE.new⟩, hs.below⟩
  refine ah_share (fuel' := 5) (listed' := #[true, true, true, true, true, true, true, true, true, false, true, true, true, true, false, false, false, false]) (fun K => ∀ (b1001 : Nat), ∀ (b4001 : Nat), ∀ (c_b4001 : Nat), ∀ (sp_b4001 : List Value), ∀ (hc_b4001 : 0 + RS.Q.la ≤ c_b4001), ∀ (hk_b4001 : c_b4001 ≤ 9223372036854775807), ∀ (b11001 : Nat), ∀ (b19001 : Nat), K [(1, (.pointer (some ⟨b1, 0, none⟩))), (2, (.pointer (some ⟨b2, 0, none⟩))), (3, (.pointer (some ⟨b3, 0, none⟩))), (7, (.slice (some ⟨b1001, 0, none⟩) 0 0)), (8, (.pointer (some ⟨b1, 1, none⟩))), (9, (.pointer (some ⟨b1, 1, none⟩))), (10, (.slice RS.Q.A RS.Q.la RS.Q.ca)), (11, (.slice (some ⟨b4001, 0, none⟩) (0 + RS.Q.la) c_b4001)), (12, (.slice (some ⟨b11001, 0, none⟩) 0 0)), (13, (.pointer (some ⟨b1, 1, none⟩))), (14, (.pointer (some ⟨b1, 2, none⟩))), (15, (.slice RS.Q.B RS.Q.lb RS.Q.cb)), (17, (.slice (some ⟨b19001, 0, none⟩) 0 0)), (18, (.pointer (some ⟨b1, 1, none⟩))), (19, (.pointer (some ⟨b1, 3, none⟩))), (20, (.slice RS.Q.C RS.Q.lc RS.Q.cc))] [(b19001, .cells []), (b11001, .cells []), (b4001, .cells (([] ++ (S.C.coils.flatMap intCells)) ++ sp_b4001)), (b3, .cells [(.int .i64 S.tick), (.slice none 0 0), (.slice none 0 0), (.slice none 0 0), (.slice none 0 0), (.slice none 0 0)]), (b2, .cells [(.int .i64 0), (.slice none 0 0), (.slice none 0 0), (.slice none 0 0), (.slice none 0 0), (.slice none 0 0)]), (b1, .cells [(.int .i64 S.tick), (.slice RS.Q.A RS.Q.la RS.Q.ca), (.slice RS.Q.B RS.Q.lb RS.Q.cb), (.slice RS.Q.C RS.Q.lc RS.Q.cc), (.slice RS.H RS.lh RS.ch), (.slice RS.T RS.lt RS.ct)])]) ?_ (fun hS1_1 => ?_)
  · intro b1001 b4001 c_b4001 sp_b4001 hc_b4001 hk_b4001 b11001 b19001
    refine ah_one 9 rfl (by kernel_rfl) (fun hok3 hcl3 => ?_)
    refine al_appendS (i := 1) (z := 1) (bytes := 8) (zv := (.int .i64 0)) (xs := []) (sp := []) (vs := (S.C.shells.flatMap intCells)) rfl rfl (by simp) (by simp) (by omega) (by omega) rfl (Sor.list (enc := intCells) (zs := S.C.shells) (fun _ => rfl) (fun _ => rfl) hS.cur.shells.1 (fun w9 hs => hS.cur.shells.below hs.below)) Tryz.underlying30 (by kernel_rfl) rfl (by omega) (by decide) rfl rfl (fun b9 c_b9 sp_b9 hc_b9 hk_b9 hl_b9 => ?_)
    refine ⟨_, .k1, ?_⟩
    refine al_end (ah_back hok3 hcl3 (fun w9 hs => (hs.tail 3 rfl)) ?_)
    exact ah_to (hS1_0 b1001 b4001 c_b4001 sp_b4001 hc_b4001 hk_b4001 b11001 b9 c_b9 sp_b9 hc_b9 hk_b9 b19001) rfl (by kernel_rfl) ⟨rfl, rfl, rfl, rfl, rfl, rfl, rfl, rfl, rfl, rfl, rfl, rfl, rfl, rfl, rfl, rfl, rfl, trivial⟩ (fun w9 hs => hs)
  refine ah_share (fuel' := 6) (listed' := #[true, true, true, true, true, true, true, true, true, false, false, true, true, true, false, false, false, false]) (fun K => ∀ (b1001 : Nat), ∀ (b4001 : Nat), ∀ (c_b4001 : Nat), ∀ (sp_b4001 : List Value), ∀ (hc_b4001 : 0 + RS.Q.la ≤ c_b4001), ∀ (hk_b4001 : c_b4001 ≤ 9223372036854775807), ∀ (b11001 : Nat), K [(1, (.pointer (some ⟨b1, 0, none⟩))), (2, (.pointer (some ⟨b2, 0, none⟩))), (3, (.pointer (some ⟨b3, 0, none⟩))), (7, (.slice (some ⟨b1001, 0, none⟩) 0 0)), (8, (.pointer (some ⟨b1, 1, none⟩))), (9, (.pointer (some ⟨b1, 1, none⟩))), (10, (.slice RS.Q.A RS.Q.la RS.Q.ca)), (11, (.slice (some ⟨b4001, 0, none⟩) (0 + RS.Q.la) c_b4001)), (12, (.slice (some ⟨b11001, 0, none⟩) 0 0)), (13, (.pointer (some ⟨b1, 1, none⟩))), (14, (.pointer (some ⟨b1, 2, none⟩))), (15, (.slice RS.Q.B RS.Q.lb RS.Q.cb)), (18, (.pointer (some ⟨b1, 1, none⟩))), (19, (.pointer (some ⟨b1, 3, none⟩))), (20, (.slice RS.Q.C RS.Q.lc RS.Q.cc))] [(b11001, .cells []), (b4001, .cells (([] ++ (S.C.coils.flatMap intCells)) ++ sp_b4001)), (b3, .cells [(.int .i64 S.tick), (.slice none 0 0), (.slice none 0 0), (.slice none 0 0), (.slice none 0 0), (.slice none 0 0)]), (b2, .cells [(.int .i64 0), (.slice none 0 0), (.slice none 0 0), (.slice none 0 0), (.slice none 0 0), (.slice none 0 0)]), (b1, .cells [(.int .i64 S.tick), (.slice RS.Q.A RS.Q.la RS.Q.ca), (.slice RS.Q.B RS.Q.lb RS.Q.cb), (.slice RS.Q.C RS.Q.lc RS.Q.cc), (.slice RS.H RS.lh RS.ch), (.slice RS.T RS.lt RS.ct)])]) ?_ (fun hS1_2 => ?_)
  · intro b1001 b4001 c_b4001 sp_b4001 hc_b4001 hk_b4001 b11001
    refine ah_two 9 10 rfl rfl  (by kernel_rfl) (fun hok4 hcl4 => ?_) (fun hok4 hcl4 => ?_)
    · refine al_appendS (i := 0) (z := 1) (bytes := 8) (zv := (.int .i64 0)) (xs := []) (sp := []) (vs := (S.C.shells.flatMap intCells)) rfl rfl (by simp) (by simp) (by omega) (by omega) rfl (Sor.list (enc := intCells) (zs := S.C.shells) (fun _ => rfl) (fun _ => rfl) hS.cur.shells.1 (fun w9 hs => hS.cur.shells.below hs.below)) Tryz.underlying30 (by kernel_rfl) rfl (by omega) (by decide) rfl rfl (fun b10 c_b10 sp_b10 hc_b10 hk_b10 hl_b10 => ?_)
      refine ⟨_, .k0, ?_⟩
      refine al_end (ah_back hok4 hcl4 (fun w9 hs => (hs.tail 2 rfl)) ?_)
      refine ah_one 10 rfl (by kernel_rfl) (fun hok5 hcl5 => ?_)
      refine al_new (fun b => .slice (some ⟨b, 0, none⟩) 0 0) (r_buildSlice .nil (kcp_bs_int_0_)) rfl rfl rfl ?_
      intro b11
      refine al_end (ah_back hok5 hcl5 (fun w9 hs => (hs.tail 3 rfl)) ?_)
      exact ah_to (hS1_0 b1001 b4001 c_b4001 sp_b4001 hc_b4001 hk_b4001 b11001 b10 c_b10 sp_b10 hc_b10 hk_b10 b11) rfl (by kernel_rfl) ⟨rfl, rfl, rfl, rfl, rfl, rfl, rfl, rfl, rfl, rfl, rfl, rfl, rfl, rfl, rfl, rfl, rfl, trivial⟩ (fun w9 hs => hs)
    · refine al_new (fun b => .slice (some ⟨b, 0, none⟩) 0 0) (r_buildSlice .nil (kcp_bs_int_0_)) rfl rfl rfl ?_
      intro b12
      refine al_end (ah_back hok4 hcl4 (fun w9 hs => (hs.tail 3 rfl)) ?_)
      exact ah_to (hS1_1 b1001 b4001 c_b4001 sp_b4001 hc_b4001 hk_b4001 b11001 b12) rfl (by kernel_rfl) ⟨rfl, rfl, rfl, rfl, rfl, rfl, rfl, rfl, rfl, rfl, rfl, rfl, rfl, rfl, rfl, rfl, trivial⟩ (fun w9 hs => hs)
  refine ah_share (fuel' := 6) (listed' := #[true, true, true, true, true, false, true, true, true, false, true, true, true, true, false, false, false, false]) (fun K => ∀ (b1001 : Nat), ∀ (b4001 : Nat), ∀ (c_b4001 : Nat), ∀ (sp_b4001 : List Value), ∀ (hc_b4001 : 0 + RS.Q.la ≤ c_b4001), ∀ (hk_b4001 : c_b4001 ≤ 9223372036854775807), ∀ (b12001 : Nat), K [(1, (.pointer (some ⟨b1, 0, none⟩))), (2, (.pointer (some ⟨b2, 0, none⟩))), (3, (.pointer (some ⟨b3, 0, none⟩))), (7, (.slice (some ⟨b1001, 0, none⟩) 0 0)), (8, (.pointer (some ⟨b1, 1, none⟩))), (9, (.pointer (some ⟨b1, 1, none⟩))), (10, (.slice RS.Q.A RS.Q.la RS.Q.ca)), (11, (.slice (some ⟨b4001, 0, none⟩) (0 + RS.Q.la) c_b4001)), (13, (.pointer (some ⟨b1, 1, none⟩))), (14, (.pointer (some ⟨b1, 2, none⟩))), (15, (.slice RS.Q.B RS.Q.lb RS.Q.cb)), (17, (.slice (some ⟨b12001, 0, none⟩) 0 0)), (18, (.pointer (some ⟨b1, 1, none⟩))), (19, (.pointer (some ⟨b1, 3, none⟩))), (20, (.slice RS.Q.C RS.Q.lc RS.Q.cc))] [(b12001, .cells []), (b4001, .cells (([] ++ (S.C.coils.flatMap intCells)) ++ sp_b4001)), (b3, .cells [(.int .i64 S.tick), (.slice none 0 0), (.slice none 0 0), (.slice none 0 0), (.slice none 0 0), (.slice none 0 0)]), (b2, .cells [(.int .i64 0), (.slice none 0 0), (.slice none 0 0), (.slice none 0 0), (.slice none 0 0), (.slice none 0 0)]), (b1, .cells [(.int .i64 S.tick), (.slice RS.Q.A RS.Q.la RS.Q.ca), (.slice RS.Q.B RS.Q.lb RS.Q.cb), (.slice RS.Q.C RS.Q.lc RS.Q.cc), (.slice RS.H RS.lh RS.ch), (.slice RS.T RS.lt RS.ct)])]) ?_ (fun hS1_3 => ?_)
  · intro b1001 b4001 c_b4001 sp_b4001 hc_b4001 hk_b4001 b12001
    refine ah_one 5 rfl (by kernel_rfl) (fun hok6 hcl6 => ?_)
    refine al_new (fun b => .slice (some ⟨b, 0, none⟩) 0 0) (r_buildSlice .nil (kcp_bs_int_0_)) rfl rfl rfl ?_
    intro b13
    refine al_end (ah_back hok6 hcl6 (fun w9 hs => (hs.tail 3 rfl)) ?_)
    exact ah_to (hS1_1 b1001 b4001 c_b4001 sp_b4001 hc_b4001 hk_b4001 b13 b12001) rfl (by kernel_rfl) ⟨rfl, rfl, rfl, rfl, rfl, rfl, rfl, rfl, rfl, rfl, rfl, rfl, rfl, rfl, rfl, rfl, trivial⟩ (fun w9 hs => hs.pm (.cons (.there (.here)) (.refl)))
  refine ah_share (fuel' := 6) (listed' := #[true, true, true, true, false, true, true, true, true, false, true, true, true, true, false, false, false, false]) (fun K => ∀ (b1001 : Nat), ∀ (b5001 : Nat), ∀ (b14001 : Nat), K [(1, (.pointer (some ⟨b1, 0, none⟩))), (2, (.pointer (some ⟨b2, 0, none⟩))), (3, (.pointer (some ⟨b3, 0, none⟩))), (7, (.slice (some ⟨b1001, 0, none⟩) 0 0)), (8, (.pointer (some ⟨b1, 1, none⟩))), (9, (.pointer (some ⟨b1, 1, none⟩))), (10, (.slice RS.Q.A RS.Q.la RS.Q.ca)), (12, (.slice (some ⟨b5001, 0, none⟩) 0 0)), (13, (.pointer (some ⟨b1, 1, none⟩))), (14, (.pointer (some ⟨b1, 2, none⟩))), (15, (.slice RS.Q.B RS.Q.lb RS.Q.cb)), (17, (.slice (some ⟨b14001, 0, none⟩) 0 0)), (18, (.pointer (some ⟨b1, 1, none⟩))), (19, (.pointer (some ⟨b1, 3, none⟩))), (20, (.slice RS.Q.C RS.Q.lc RS.Q.cc))] [(b14001, .cells []), (b5001, .cells []), (b1001, .cells []), (b3, .cells [(.int .i64 S.tick), (.slice none 0 0), (.slice none 0 0), (.slice none 0 0), (.slice none 0 0), (.slice none 0 0)]), (b2, .cells [(.int .i64 0), (.slice none 0 0), (.slice none 0 0), (.slice none 0 0), (.slice none 0 0), (.slice none 0 0)]), (b1, .cells [(.int .i64 S.tick), (.slice RS.Q.A RS.Q.la RS.Q.ca), (.slice RS.Q.B RS.Q.lb RS.Q.cb), (.slice RS.Q.C RS.Q.lc RS.Q.cc), (.slice RS.H RS.lh RS.ch), (.slice RS.T RS.lt RS.ct)])]) ?_ (fun hS1_4 => ?_)
  · intro b1001 b5001 b14001
    refine ah_one 4 rfl (by kernel_rfl) (fun hok7 hcl7 => ?_)
    refine al_appendS (i := 2) (z := 1) (bytes := 8) (zv := (.int .i64 0)) (xs := []) (sp := []) (vs := (S.C.coils.flatMap intCells)) rfl rfl (by simp) (by simp) (by omega) (by omega) rfl (Sor.list (enc := intCells) (zs := S.C.coils) (fun _ => rfl) (fun _ => rfl) hS.cur.coils.1 (fun w9 hs => hS.cur.coils.below hs.below)) Tryz.underlying30 (by kernel_rfl) rfl (by omega) (by decide) rfl rfl (fun b14 c_b14 sp_b14 hc_b14 hk_b14 hl_b14 => ?_)
    refine ⟨_, .k2, ?_⟩
    refine al_end (ah_back hok7 hcl7 (fun w9 hs => (hs.tail 3 rfl)) ?_)
    exact ah_to (hS1_1 b1001 b14 c_b14 sp_b14 hc_b14 hk_b14 b5001 b14001) rfl (by kernel_rfl) ⟨rfl, rfl, rfl, rfl, rfl, rfl, rfl, rfl, rfl, rfl, rfl, rfl, rfl, rfl, rfl, rfl, trivial⟩ (fun w9 hs => hs)
  refine ah_share (fuel' := 7) (listed' := #[true, true, true, true, false, true, true, true, true, false, false, true, true, true, false, false, false, false]) (fun K => ∀ (b1001 : Nat), ∀ (b5001 : Nat), K [(1, (.pointer (some ⟨b1, 0, none⟩))), (2, (.pointer (some ⟨b2, 0, none⟩))), (3, (.pointer (some ⟨b3, 0, none⟩))), (7, (.slice (some ⟨b1001, 0, none⟩) 0 0)), (8, (.pointer (some ⟨b1, 1, none⟩))), (9, (.pointer (some ⟨b1, 1, none⟩))), (10, (.slice RS.Q.A RS.Q.la RS.Q.ca)), (12, (.slice (some ⟨b5001, 0, none⟩) 0 0)), (13, (.pointer (some ⟨b1, 1, none⟩))), (14, (.pointer (some ⟨b1, 2, none⟩))), (15, (.slice RS.Q.B RS.Q.lb RS.Q.cb)), (18, (.pointer (some ⟨b1, 1, none⟩))), (19, (.pointer (some ⟨b1, 3, none⟩))), (20, (.slice RS.Q.C RS.Q.lc RS.Q.cc))] [(b5001, .cells []), (b1001, .cells []), (b3, .cells [(.int .i64 S.tick), (.slice none 0 0), (.slice none 0 0), (.slice none 0 0), (.slice none 0 0), (.slice none 0 0)]), (b2, .cells [(.int .i64 0), (.slice none 0 0), (.slice none 0 0), (.slice none 0 0), (.slice none 0 0), (.slice none 0 0)]), (b1, .cells [(.int .i64 S.tick), (.slice RS.Q.A RS.Q.la RS.Q.ca), (.slice RS.Q.B RS.Q.lb RS.Q.cb), (.slice RS.Q.C RS.Q.lc RS.Q.cc), (.slice RS.H RS.lh RS.ch), (.slice RS.T RS.lt RS.ct)])]) ?_ (fun hS1_5 => ?_)
  · intro b1001 b5001
    refine ah_two 4 10 rfl rfl  (by kernel_rfl) (fun hok8 hcl8 => ?_) (fun hok8 hcl8 => ?_)
    · refine al_appendS (i := 1) (z := 1) (bytes := 8) (zv := (.int .i64 0)) (xs := []) (sp := []) (vs := (S.C.coils.flatMap intCells)) rfl rfl (by simp) (by simp) (by omega) (by omega) rfl (Sor.list (enc := intCells) (zs := S.C.coils) (fun _ => rfl) (fun _ => rfl) hS.cur.coils.1 (fun w9 hs => hS.cur.coils.below hs.below)) Tryz.underlying30 (by kernel_rfl) rfl (by omega) (by decide) rfl rfl (fun b15 c_b15 sp_b15 hc_b15 hk_b15 hl_b15 => ?_)
      refine ⟨_, .k1, ?_⟩
      refine al_end (ah_back hok8 hcl8 (fun w9 hs => (hs.tail 2 rfl)) ?_)
      exact ah_to (hS1_2 b1001 b15 c_b15 sp_b15 hc_b15 hk_b15 b5001) rfl (by kernel_rfl) ⟨rfl, rfl, rfl, rfl, rfl, rfl, rfl, rfl, rfl, rfl, rfl, rfl, rfl, rfl, rfl, trivial⟩ (fun w9 hs => hs)
    · refine al_new (fun b => .slice (some ⟨b, 0, none⟩) 0 0) (r_buildSlice .nil (kcp_bs_int_0_)) rfl rfl rfl ?_
      intro b16
      refine al_end (ah_back hok8 hcl8 (fun w9 hs => (hs.tail 3 rfl)) ?_)
      exact ah_to (hS1_4 b1001 b5001 b16) rfl (by kernel_rfl) ⟨rfl, rfl, rfl, rfl, rfl, rfl, rfl, rfl, rfl, rfl, rfl, rfl, rfl, rfl, rfl, trivial⟩ (fun w9 hs => hs)
  refine ah_share (fuel' := 7) (listed' := #[true, true, true, true, false, false, true, true, true, false, true, true, true, true, false, false, false, false]) (fun K => ∀ (b1001 : Nat), ∀ (b6001 : Nat), K [(1, (.pointer (some ⟨b1, 0, none⟩))), (2, (.pointer (some ⟨b2, 0, none⟩))), (3, (.pointer (some ⟨b3, 0, none⟩))), (7, (.slice (some ⟨b1001, 0, none⟩) 0 0)), (8, (.pointer (some ⟨b1, 1, none⟩))), (9, (.pointer (some ⟨b1, 1, none⟩))), (10, (.slice RS.Q.A RS.Q.la RS.Q.ca)), (13, (.pointer (some ⟨b1, 1, none⟩))), (14, (.pointer (some ⟨b1, 2, none⟩))), (15, (.slice RS.Q.B RS.Q.lb RS.Q.cb)), (17, (.slice (some ⟨b6001, 0, none⟩) 0 0)), (18, (.pointer (some ⟨b1, 1, none⟩))), (19, (.pointer (some ⟨b1, 3, none⟩))), (20, (.slice RS.Q.C RS.Q.lc RS.Q.cc))] [(b6001, .cells []), (b1001, .cells []), (b3, .cells [(.int .i64 S.tick), (.slice none 0 0), (.slice none 0 0), (.slice none 0 0), (.slice none 0 0), (.slice none 0 0)]), (b2, .cells [(.int .i64 0), (.slice none 0 0), (.slice none 0 0), (.slice none 0 0), (.slice none 0 0), (.slice none 0 0)]), (b1, .cells [(.int .i64 S.tick), (.slice RS.Q.A RS.Q.la RS.Q.ca), (.slice RS.Q.B RS.Q.lb RS.Q.cb), (.slice RS.Q.C RS.Q.lc RS.Q.cc), (.slice RS.H RS.lh RS.ch), (.slice RS.T RS.lt RS.ct)])]) ?_ (fun hS1_6 => ?_)
  · intro b1001 b6001
    refine ah_two 4 5 rfl rfl  (by kernel_rfl) (fun hok9 hcl9 => ?_) (fun hok9 hcl9 => ?_)
    · refine al_appendS (i := 1) (z := 1) (bytes := 8) (zv := (.int .i64 0)) (xs := []) (sp := []) (vs := (S.C.coils.flatMap intCells)) rfl rfl (by simp) (by simp) (by omega) (by omega) rfl (Sor.list (enc := intCells) (zs := S.C.coils) (fun _ => rfl) (fun _ => rfl) hS.cur.coils.1 (fun w9 hs => hS.cur.coils.below hs.below)) Tryz.underlying30 (by kernel_rfl) rfl (by omega) (by decide) rfl rfl (fun b17 c_b17 sp_b17 hc_b17 hk_b17 hl_b17 => ?_)
      refine ⟨_, .k1, ?_⟩
      refine al_end (ah_back hok9 hcl9 (fun w9 hs => (hs.tail 2 rfl)) ?_)
      exact ah_to (hS1_3 b1001 b17 c_b17 sp_b17 hc_b17 hk_b17 b6001) rfl (by kernel_rfl) ⟨rfl, rfl, rfl, rfl, rfl, rfl, rfl, rfl, rfl, rfl, rfl, rfl, rfl, rfl, rfl, trivial⟩ (fun w9 hs => hs)
    · refine al_new (fun b => .slice (some ⟨b, 0, none⟩) 0 0) (r_buildSlice .nil (kcp_bs_int_0_)) rfl rfl rfl ?_
      intro b18
      refine al_end (ah_back hok9 hcl9 (fun w9 hs => (hs.tail 3 rfl)) ?_)
      exact ah_to (hS1_4 b1001 b18 b6001) rfl (by kernel_rfl) ⟨rfl, rfl, rfl, rfl, rfl, rfl, rfl, rfl, rfl, rfl, rfl, rfl, rfl, rfl, rfl, trivial⟩ (fun w9 hs => hs.pm (.cons (.there (.here)) (.refl)))
  refine ah_share (fuel' := 7) (listed' := #[false, true, true, true, false, true, true, true, true, false, true, true, true, true, false, false, false, false]) (fun K => ∀ (b2001 : Nat), ∀ (b8001 : Nat), K [(1, (.pointer (some ⟨b1, 0, none⟩))), (2, (.pointer (some ⟨b2, 0, none⟩))), (3, (.pointer (some ⟨b3, 0, none⟩))), (8, (.pointer (some ⟨b1, 1, none⟩))), (9, (.pointer (some ⟨b1, 1, none⟩))), (10, (.slice RS.Q.A RS.Q.la RS.Q.ca)), (12, (.slice (some ⟨b2001, 0, none⟩) 0 0)), (13, (.pointer (some ⟨b1, 1, none⟩))), (14, (.pointer (some ⟨b1, 2, none⟩))), (15, (.slice RS.Q.B RS.Q.lb RS.Q.cb)), (17, (.slice (some ⟨b8001, 0, none⟩) 0 0)), (18, (.pointer (some ⟨b1, 1, none⟩))), (19, (.pointer (some ⟨b1, 3, none⟩))), (20, (.slice RS.Q.C RS.Q.lc RS.Q.cc))] [(b8001, .cells []), (b2001, .cells []), (b3, .cells [(.int .i64 S.tick), (.slice none 0 0), (.slice none 0 0), (.slice none 0 0), (.slice none 0 0), (.slice none 0 0)]), (b2, .cells [(.int .i64 0), (.slice none 0 0), (.slice none 0 0), (.slice none 0 0), (.slice none 0 0), (.slice none 0 0)]), (b1, .cells [(.int .i64 S.tick), (.slice RS.Q.A RS.Q.la RS.Q.ca), (.slice RS.Q.B RS.Q.lb RS.Q.cb), (.slice RS.Q.C RS.Q.lc RS.Q.cc), (.slice RS.H RS.lh RS.ch), (.slice RS.T RS.lt RS.ct)])]) ?_ (fun hS1_7 => ?_)
  · intro b2001 b8001
    refine ah_one 0 rfl (by kernel_rfl) (fun hok10 hcl10 => ?_)
    refine al_new (fun b => .slice (some ⟨b, 0, none⟩) 0 0) (r_buildSlice .nil (kcp_bs_int_0_)) rfl rfl rfl ?_
    intro b19
    refine al_end (ah_back hok10 hcl10 (fun w9 hs => (hs.tail 3 rfl)) ?_)
    exact ah_to (hS1_4 b19 b2001 b8001) rfl (by kernel_rfl) ⟨rfl, rfl, rfl, rfl, rfl, rfl, rfl, rfl, rfl, rfl, rfl, rfl, rfl, rfl, rfl, trivial⟩ (fun w9 hs => hs.pm (.cons (.there (.here)) ( .cons (.there (.here)) (.refl))))
  · refine ah_take 1 (fun w9 hs => hs) rfl rfl rfl (by kernel_rfl) (by kernel_rfl) (by kernel_rfl) (fun _ _ _ h => h) rfl (q_fieldAddr 1 rfl Tryz.runUnderlying35 rfl Tryz.sizeOf32 (by decide) rfl) ?_
    refine ah_take 2 (fun w9 hs => hs) rfl rfl rfl (by kernel_rfl) (by kernel_rfl) (by kernel_rfl) (fun _ _ _ h => h) rfl (q_fieldAddr 1 rfl Tryz.runUnderlying32 rfl Tryz.sizeOf30 (by decide) rfl) ?_
    refine ah_take 3 (fun w9 hs => hs) rfl rfl rfl (by kernel_rfl) (by kernel_rfl) (by kernel_rfl) (fun _ _ _ h => h) rfl (q_load (i := 2) rfl rfl rfl Tryz.isAgg30) ?_
    refine ah_take 6 (fun w9 hs => hs) rfl rfl rfl (by kernel_rfl) (by kernel_rfl) (by kernel_rfl) (fun _ _ _ h => h) rfl (q_fieldAddr 1 rfl Tryz.runUnderlying35 rfl Tryz.sizeOf32 (by decide) rfl) ?_
    refine ah_take 7 (fun w9 hs => hs) rfl rfl rfl (by kernel_rfl) (by kernel_rfl) (by kernel_rfl) (fun _ _ _ h => h) rfl (q_fieldAddr 2 rfl Tryz.runUnderlying32 rfl Tryz.sizeOf30 (by decide) rfl) ?_
    refine ah_take 8 (fun w9 hs => hs) rfl rfl rfl (by kernel_rfl) (by kernel_rfl) (by kernel_rfl) (fun _ _ _ h => h) rfl (q_load (i := 2) rfl rfl rfl Tryz.isAgg30) ?_
    refine ah_take 11 (fun w9 hs => hs) rfl rfl rfl (by kernel_rfl) (by kernel_rfl) (by kernel_rfl) (fun _ _ _ h => h) rfl (q_fieldAddr 1 rfl Tryz.runUnderlying35 rfl Tryz.sizeOf32 (by decide) rfl) ?_
    refine ah_take 12 (fun w9 hs => hs) rfl rfl rfl (by kernel_rfl) (by kernel_rfl) (by kernel_rfl) (fun _ _ _ h => h) rfl (q_fieldAddr 3 rfl Tryz.runUnderlying32 rfl Tryz.sizeOf30 (by decide) rfl) ?_
    refine ah_take 13 (fun w9 hs => hs) rfl rfl rfl (by kernel_rfl) (by kernel_rfl) (by kernel_rfl) (fun _ _ _ h => h) rfl (q_load (i := 2) rfl rfl rfl Tryz.isAgg30) ?_
    refine ah_three 0 5 10 rfl rfl rfl  (by kernel_rfl) (fun hok11 hcl11 => ?_) (fun hok11 hcl11 => ?_) (fun hok11 hcl11 => ?_)
    · refine al_new (fun b => .slice (some ⟨b, 0, none⟩) 0 0) (r_buildSlice .nil (kcp_bs_int_0_)) rfl rfl rfl ?_
      intro b20
      refine al_end (ah_back hok11 hcl11 (fun w9 hs => (hs.tail 1 rfl)) ?_)
      refine ah_three 4 5 10 rfl rfl rfl  (by kernel_rfl) (fun hok12 hcl12 => ?_) (fun hok12 hcl12 => ?_) (fun hok12 hcl12 => ?_)
      · refine al_appendS (i := 0) (z := 1) (bytes := 8) (zv := (.int .i64 0)) (xs := []) (sp := []) (vs := (S.C.coils.flatMap intCells)) rfl rfl (by simp) (by simp) (by omega) (by omega) rfl (Sor.list (enc := intCells) (zs := S.C.coils) (fun _ => rfl) (fun _ => rfl) hS.cur.coils.1 (fun w9 hs => hS.cur.coils.below hs.below)) Tryz.underlying30 (by kernel_rfl) rfl (by omega) (by decide) rfl rfl (fun b21 c_b21 sp_b21 hc_b21 hk_b21 hl_b21 => ?_)
        refine ⟨_, .k0, ?_⟩
        refine al_end (ah_back hok12 hcl12 (fun w9 hs => (hs.tail 1 rfl)) ?_)
        refine ah_two 5 10 rfl rfl  (by kernel_rfl) (fun hok13 hcl13 => ?_) (fun hok13 hcl13 => ?_)
        · refine al_new (fun b => .slice (some ⟨b, 0, none⟩) 0 0) (r_buildSlice .nil (kcp_bs_int_0_)) rfl rfl rfl ?_
          intro b22
          refine al_end (ah_back hok13 hcl13 (fun w9 hs => (hs.tail 2 rfl)) ?_)
          exact ah_to (hS1_2 b20 b21 c_b21 sp_b21 hc_b21 hk_b21 b22) rfl (by kernel_rfl) ⟨rfl, rfl, rfl, rfl, rfl, rfl, rfl, rfl, rfl, rfl, rfl, rfl, rfl, rfl, rfl, trivial⟩ (fun w9 hs => hs)
        · refine al_new (fun b => .slice (some ⟨b, 0, none⟩) 0 0) (r_buildSlice .nil (kcp_bs_int_0_)) rfl rfl rfl ?_
          intro b23
          refine al_end (ah_back hok13 hcl13 (fun w9 hs => (hs.tail 2 rfl)) ?_)
          exact ah_to (hS1_3 b20 b21 c_b21 sp_b21 hc_b21 hk_b21 b23) rfl (by kernel_rfl) ⟨rfl, rfl, rfl, rfl, rfl, rfl, rfl, rfl, rfl, rfl, rfl, rfl, rfl, rfl, rfl, trivial⟩ (fun w9 hs => hs)
      · refine al_new (fun b => .slice (some ⟨b, 0, none⟩) 0 0) (r_buildSlice .nil (kcp_bs_int_0_)) rfl rfl rfl ?_
        intro b24
        refine al_end (ah_back hok12 hcl12 (fun w9 hs => (hs.tail 2 rfl)) ?_)
        exact ah_to (hS1_5 b20 b24) rfl (by kernel_rfl) ⟨rfl, rfl, rfl, rfl, rfl, rfl, rfl, rfl, rfl, rfl, rfl, rfl, rfl, rfl, trivial⟩ (fun w9 hs => hs)
      · refine al_new (fun b => .slice (some ⟨b, 0, none⟩) 0 0) (r_buildSlice .nil (kcp_bs_int_0_)) rfl rfl rfl ?_
        intro b25
        refine al_end (ah_back hok12 hcl12 (fun w9 hs => (hs.tail 2 rfl)) ?_)
        exact ah_to (hS1_6 b20 b25) rfl (by kernel_rfl) ⟨rfl, rfl, rfl, rfl, rfl, rfl, rfl, rfl, rfl, rfl, rfl, rfl, rfl, rfl, trivial⟩ (fun w9 hs => hs)
    · refine al_new (fun b => .slice (some ⟨b, 0, none⟩) 0 0) (r_buildSlice .nil (kcp_bs_int_0_)) rfl rfl rfl ?_
      intro b26
      refine al_end (ah_back hok11 hcl11 (fun w9 hs => (hs.tail 1 rfl)) ?_)
      refine ah_two 0 10 rfl rfl  (by kernel_rfl) (fun hok14 hcl14 => ?_) (fun hok14 hcl14 => ?_)
      · refine al_new (fun b => .slice (some ⟨b, 0, none⟩) 0 0) (r_buildSlice .nil (kcp_bs_int_0_)) rfl rfl rfl ?_
        intro b27
        refine al_end (ah_back hok14 hcl14 (fun w9 hs => (hs.tail 2 rfl)) ?_)
        exact ah_to (hS1_5 b27 b26) rfl (by kernel_rfl) ⟨rfl, rfl, rfl, rfl, rfl, rfl, rfl, rfl, rfl, rfl, rfl, rfl, rfl, rfl, trivial⟩ (fun w9 hs => hs.pm (.cons (.there (.here)) (.refl)))
      · refine al_new (fun b => .slice (some ⟨b, 0, none⟩) 0 0) (r_buildSlice .nil (kcp_bs_int_0_)) rfl rfl rfl ?_
        intro b28
        refine al_end (ah_back hok14 hcl14 (fun w9 hs => (hs.tail 2 rfl)) ?_)
        exact ah_to (hS1_7 b26 b28) rfl (by kernel_rfl) ⟨rfl, rfl, rfl, rfl, rfl, rfl, rfl, rfl, rfl, rfl, rfl, rfl, rfl, rfl, trivial⟩ (fun w9 hs => hs)
    · refine al_new (fun b => .slice (some ⟨b, 0, none⟩) 0 0) (r_buildSlice .nil (kcp_bs_int_0_)) rfl rfl rfl ?_
      intro b29
      refine al_end (ah_back hok11 hcl11 (fun w9 hs => (hs.tail 1 rfl)) ?_)
      refine ah_two 0 5 rfl rfl  (by kernel_rfl) (fun hok15 hcl15 => ?_) (fun hok15 hcl15 => ?_)
      · refine al_new (fun b => .slice (some ⟨b, 0, none⟩) 0 0) (r_buildSlice .nil (kcp_bs_int_0_)) rfl rfl rfl ?_
        intro b30
        refine al_end (ah_back hok15 hcl15 (fun w9 hs => (hs.tail 2 rfl)) ?_)
        exact ah_to (hS1_6 b30 b29) rfl (by kernel_rfl) ⟨rfl, rfl, rfl, rfl, rfl, rfl, rfl, rfl, rfl, rfl, rfl, rfl, rfl, rfl, trivial⟩ (fun w9 hs => hs.pm (.cons (.there (.here)) (.refl)))
      · refine al_new (fun b => .slice (some ⟨b, 0, none⟩) 0 0) (r_buildSlice .nil (kcp_bs_int_0_)) rfl rfl rfl ?_
        intro b31
        refine al_end (ah_back hok15 hcl15 (fun w9 hs => (hs.tail 2 rfl)) ?_)
        exact ah_to (hS1_7 b31 b29) rfl (by kernel_rfl) ⟨rfl, rfl, rfl, rfl, rfl, rfl, rfl, rfl, rfl, rfl, rfl, rfl, rfl, rfl, trivial⟩ (fun w9 hs => hs.pm (.cons (.there (.here)) (.refl)))

end Go.Proofs.YtkhahbnagbjbiaaGreat
end
section
/- The specification of layer 3: calm, Coast, over this seat's translation (written by ax_ci27.py). -/
namespace Go.Proofs.YtkhahbnagbjbiaaGreat
set_option linter.unusedVariables false
set_option linter.unusedSimpArgs false
open Go.RowKit

theorem kcq_bl_apiDrive_0_1 (a0 a1 : Value) (ha0 : a0.oneCell' = true) (ha1 : a1.oneCell' = true) : ∀ w, (Instr.build 37 #[(0, a0), (1, a1)]).run Tryz.prog w = .ok (.agg #[a0, a1]) w := by
  have ea0 : a0.cells = #[a0] := cells_one ha0
  have ea1 : a1.cells = #[a1] := cells_one ha1
  intro w; simp [Instr.build, Instr.fill, cells_agg, Tryz.runUnderlying37, Tryz.zeroValue37, Tryz.sizeOf30, ea0, ea1]

set_option maxRecDepth 100000 in
theorem rcalm_any (RS : StR) (S : StD) (w : World) (hS : IsS w RS S) (k1 : RS.Q.la ≤ 100000) : Calls Tryz.prog 39 #[(RS.v S.tick)] w (fun e w' => ∃ b, e = .returned (.agg #[.slice (some ⟨b, 0, none⟩) RS.Q.la RS.Q.la, .slice RS.Q.C RS.Q.lc RS.Q.cc]) ∧ NewT 1 intCells w.heap.size w' (some ⟨b, 0, none⟩) RS.Q.la RS.Q.la (zerosI RS.Q.la) ∧ Below w.heap.size w w') := by
  refine calls_ax (vs := [(RS.v S.tick)]) Tryz.func39 rfl rfl ?_
  refine ac_seq ?_
  refine ac_region ?_
  refine al_new (fun b => .pointer (some ⟨b, 0, none⟩)) (r_box rfl rfl) rfl rfl rfl ?_
  intro b1
  refine al_new (fun b => .pointer (some ⟨b, 0, none⟩)) (r_alloc Tryz.zeroValue37 rfl) rfl rfl rfl ?_
  intro b2
  refine al_end ?_
  refine aq_then ?_
  refine ac_seq ?_
  refine ac_draw 9 (by kernel_rfl) (by kernel_rfl) ?_
  refine ah_take 0 (fun w9 hs => hs) rfl rfl rfl (by kernel_rfl) (by kernel_rfl) (by kernel_rfl) (fun _ _ _ h => h) rfl (q_fieldAddr 1 rfl Tryz.runUnderlying35 rfl Tryz.sizeOf32 (by decide) rfl) ?_
  refine ah_take 1 (fun w9 hs => hs) rfl rfl rfl (by kernel_rfl) (by kernel_rfl) (by kernel_rfl) (fun _ _ _ h => h) rfl (q_fieldAddr 1 rfl Tryz.runUnderlying32 rfl Tryz.sizeOf30 (by decide) rfl) ?_
  refine ah_take 2 (fun w9 hs => hs) rfl rfl rfl (by kernel_rfl) (by kernel_rfl) (by kernel_rfl) (fun _ _ _ h => h) rfl (q_load (i := 1) rfl rfl rfl Tryz.isAgg30) ?_
  refine ah_take 3 (fun w9 hs => hs) rfl rfl rfl (by kernel_rfl) (by kernel_rfl) (by kernel_rfl) (fun _ _ _ h => h) rfl (q_lenS rfl Tryz.runUnderlying30) ?_
  refine ah_take 5 (fun w9 hs => hs) rfl rfl rfl (by kernel_rfl) (by kernel_rfl) (by kernel_rfl) (fun _ _ _ h => h) rfl (q_fieldAddr 1 rfl Tryz.runUnderlying35 rfl Tryz.sizeOf32 (by decide) rfl) ?_
  refine ah_take 6 (fun w9 hs => hs) rfl rfl rfl (by kernel_rfl) (by kernel_rfl) (by kernel_rfl) (fun _ _ _ h => h) rfl (q_fieldAddr 3 rfl Tryz.runUnderlying32 rfl Tryz.sizeOf30 (by decide) rfl) ?_
  refine ah_take 7 (fun w9 hs => hs) rfl rfl rfl (by kernel_rfl) (by kernel_rfl) (by kernel_rfl) (fun _ _ _ h => h) rfl (q_load (i := 1) rfl rfl rfl Tryz.isAgg30) ?_
  refine ah_one 4 rfl (by kernel_rfl) (fun hok1 hcl1 => ?_)
  refine al_makeInts (n := RS.Q.la) (z := (.int .i64 0)) (bytes := 8) rfl rfl rfl Tryz.underlying30 (by kernel_rfl) rfl (by omega) (by decide) rfl rfl ?_
  intro b3
  refine al_end (ah_back hok1 hcl1 (fun w9 hs => (hs.tail 1 rfl)) ?_)
  refine ah_take 8 (fun w9 hs => (hs.tail 1 rfl)) rfl rfl rfl (by kernel_rfl) (by kernel_rfl) (by kernel_rfl) (fun _ _ _ h => h) rfl (q_build (.cons rfl (.cons rfl .nil)) (kcq_bl_apiDrive_0_1 _ _ rfl rfl)) ?_
  refine ah_one 9 rfl (by kernel_rfl) (fun hok2 hcl2 => ?_)
  refine al_storeAll (i := 1) rfl rfl rfl rfl Tryz.sizeOf37 rfl rfl .k1 rfl ?_
  refine al_end (ah_last (by kernel_rfl) ?_)
  refine aq_then ?_
  refine ac_ret ?_
  refine retR Tryz.results39 (.agg (i := 1) rfl rfl Tryz.isAgg37 Tryz.sizeOf37 rfl .nil) .one (fun w9 hs => ?_)
  exact ⟨b3, rfl, ⟨isT_box0 (n := 1) (enc := intCells) (fun _ => rfl) (hs.at 0 rfl) (flatZ RS.Q.la) (by simp [zerosI]), fun b off e => hs.new 0 rfl b off e, by omega, by omega⟩, hs.below⟩

theorem coast_plasma (M : MachD) (S : StD) : ∀ k : Nat, (coastD M S k).C.plasma = S.C.plasma
  | 0 => rfl
  | k + 1 => rfl
theorem coast_fit {M : MachD} {S : StD} (hS : FitS M S) (k : Nat) (h : S.tick + (k : Int) ≤ 1000000000) : FitS M (coastD M S k) := steps_fit hS k h (fun _ _ => fitD_of zero_ch (plasma_ok hS))
theorem coastE_late {M : MachD} {S : StD} {g : Int} (hv : validS M S = true) (h : ¬ ((0 ≤ g ∧ g ≤ 10000) ∧ S.tick + g ≤ 1000000000)) : coastE M S g = 7 := by
  rw [coastE, if_pos hv, repE, if_neg h]
theorem coastE_fine {M : MachD} {S : StD} {g : Int} (hv : validS M S = true) (h : (0 ≤ g ∧ g ≤ 10000) ∧ S.tick + g ≤ 1000000000) : coastE M S g = 0 := by
  rw [coastE, if_pos hv, repE, if_pos h]

theorem kcq_bl_apiState_ : ∀ w, (Instr.build 35 #[]).run Tryz.prog w = .ok (.agg #[(.int .i64 0), (.slice none 0 0), (.slice none 0 0), (.slice none 0 0), (.slice none 0 0), (.slice none 0 0)]) w := by
  intro w; simp [Instr.build, Instr.fill, cells_agg, Tryz.runUnderlying35, Tryz.zeroValue35, Tryz.sizeOf3, Tryz.sizeOf30, Tryz.sizeOf32, Tryz.sizeOf33]

set_option maxRecDepth 100000 in
theorem rCoast_any (R : MachR) (M : MachD) (RS : StR) (S : StD) (g : Int) (w : World) (hM : IsM w R M) (hS : IsS w RS S) : Calls Tryz.prog 18 #[(.agg (machCells R M)), (RS.v S.tick), (.int .i64 g)] w (OutS w (coastE M S g) (coastD M S g.toNat)) := by
  refine calls_ax (vs := [(.agg (machCells R M)), (RS.v S.tick), (.int .i64 g)]) Tryz.func18 rfl rfl ?_
  refine ac_seq ?_
  refine ac_region ?_
  refine al_new (fun b => .pointer (some ⟨b, 0, none⟩)) (r_box rfl rfl) rfl rfl rfl ?_
  intro b1
  refine al_new (fun b => .pointer (some ⟨b, 0, none⟩)) (r_box rfl rfl) rfl rfl rfl ?_
  intro b2
  refine al_new (fun b => .pointer (some ⟨b, 0, none⟩)) (r_alloc Tryz.zeroValue35 rfl) rfl rfl rfl ?_
  intro b3
  refine al_q (q_assign rfl) rfl rfl rfl ?_
  refine al_end ?_
  refine aq_then ?_
  refine ac_seq ?_
  refine ac_block ?_
  refine ac_seq ?_
  refine ac_region ?_
  refine al_q (q_loadAll (i := 2) rfl rfl Tryz.isAgg29 Tryz.sizeOf29 rfl) rfl rfl rfl ?_
  refine al_q (q_loadAll (i := 1) rfl rfl Tryz.isAgg35 Tryz.sizeOf35 rfl) rfl rfl rfl ?_
  refine al_call Tryz.call26 (.cons rfl (.cons rfl .nil)) rfl rfl (fun w1 hs1 => ?_)
  refine (rvalidState_any R M RS S _ (hM.below hs1.below) (hS.below hs1.below)).mono ?_
  rintro e u1 ⟨rfl, hb_1⟩
  refine ⟨_, rfl, hb_1, ?_⟩
  clear hs1
  refine al_q (q_not rfl) rfl rfl rfl ?_
  refine al_q (q_assign rfl) rfl rfl rfl ?_
  refine al_end ?_
  refine aq_then ?_
  refine ac_cond rfl (fun h1 => ?_) (fun h1 => ?_)
  · have hE : coastE M S g = 1 := if_neg (fun h => by first | (rw [h.1] at h1; cases h1) | (rw [h] at h1; cases h1))
    refine ac_seq ?_
    refine ac_region ?_
    refine al_q (q_build .nil (kcq_bl_apiState_)) rfl rfl rfl ?_
    refine al_storeAll (i := 0) rfl rfl rfl rfl Tryz.sizeOf35 rfl rfl .k0 rfl ?_
    refine al_q (q_assign rfl) rfl rfl rfl ?_
    refine al_end ?_
    refine aq_then ?_
    refine ac_ret ?_
    refine aq_inR ?_
    refine aq_thenR ?_
    refine retR Tryz.results18 (.agg (i := 0) rfl rfl Tryz.isAgg35 Tryz.sizeOf35 rfl (.tmp rfl .nil)) .two (fun w9 hs => ?_)
    rw [hE]; exact OutS.bad (by decide) ⟨rfl, hs.below⟩
  · have hv : validS M S = true := by simpa using h1
    have hf := fitS_iff.1 hv
    obtain ⟨s1, s2⟩ := smallC hM hf.cur.check
    have s3 := cellN_bd hf.cur.check
    have s4 := hf.cur.plasma.1
    have s5 := hS.cur.plasma.1
    have s6 : RS.Q.lc ≤ 64 := by unfold cellN at s3; omega
    have s7 := hS.cur.coils.1
    have s8 := hS.cur.shells.1
    have s9 := hS.heat.1
    have s10 := hS.trip.1
    have s11 := hf.cur.coils.1
    have s12 := hf.cur.shells.1
    have s13 := hf.heat.1
    have s14 := hf.trip
    have s15 := hM.coils.1
    have s16 := hM.shells.1
    refine ac_seq ?_
    refine ac_region ?_
    refine al_q (q_move rfl) rfl rfl rfl ?_
    refine al_call Tryz.call38 (.cons rfl (.cons rfl (.cons rfl .nil))) rfl rfl (fun w2 hs2 => ?_)
    refine (rwithin3_any g 0 10000 _).mono ?_
    rintro e u2 ⟨rfl, hb_2⟩
    refine ⟨_, rfl, hb_2, ?_⟩
    clear hs2
    refine al_q (q_not rfl) rfl rfl rfl ?_
    refine al_q (q_move rfl) rfl rfl rfl ?_
    refine aq_split 20 rfl (fun hb1 => ?_) (fun hb1 => ?_)
    · have hE := coastE_late hv (fun h => by rw [wthn_iff.2 h.1] at hb1; cases hb1)
      refine al_skip rfl rfl rfl ?_
      refine al_skip rfl rfl rfl ?_
      refine al_skip rfl rfl rfl ?_
      refine al_skip rfl rfl rfl ?_
      refine al_skip rfl rfl rfl ?_
      refine al_q (q_pickT rfl rfl) rfl rfl rfl ?_
      refine al_q (q_assign rfl) rfl rfl rfl ?_
      refine al_end ?_
      refine aq_then ?_
      refine ac_condT rfl ?_
      refine ac_seq ?_
      refine ac_region ?_
      refine al_q (q_build .nil (kcq_bl_apiState_)) rfl rfl rfl ?_
      refine al_storeAll (i := 0) rfl rfl rfl rfl Tryz.sizeOf35 rfl rfl .k0 rfl ?_
      refine al_q (q_assign rfl) rfl rfl rfl ?_
      refine al_end ?_
      refine aq_then ?_
      refine ac_ret ?_
      refine aq_inR ?_
      refine aq_thenR ?_
      refine retR Tryz.results18 (.agg (i := 0) rfl rfl Tryz.isAgg35 Tryz.sizeOf35 rfl (.tmp rfl .nil)) .two (fun w9 hs => ?_)
      rw [hE]; exact OutS.bad (by decide) ⟨rfl, hs.below⟩
    · have hw := wthn_iff.1 (show wthn g 0 10000 = true by simpa using hb1)
      have hti := hf.tick
      refine al_q (q_fieldAddr 0 rfl Tryz.runUnderlying35 rfl Tryz.sizeOf3 (by decide) rfl) rfl rfl rfl ?_
      refine al_q (q_load (i := 1) rfl rfl rfl Tryz.isAgg3) rfl rfl rfl ?_
      refine al_q (q_move rfl) rfl rfl rfl ?_
      refine al_q (q_add rfl rfl (by omega)) rfl rfl rfl ?_
      refine al_q (q_gtr rfl rfl) rfl rfl rfl ?_
      refine al_q (q_pickF rfl rfl) rfl rfl rfl ?_
      refine al_q (q_assign rfl) rfl rfl rfl ?_
      refine al_end ?_
      refine aq_then ?_
      refine ac_cond rfl (fun h2 => ?_) (fun h2 => ?_)
      · have hE := coastE_late (g := g) hv (fun h => by have := of_decide_eq_true h2; omega)
        refine ac_seq ?_
        refine ac_region ?_
        refine al_q (q_build .nil (kcq_bl_apiState_)) rfl rfl rfl ?_
        refine al_storeAll (i := 0) rfl rfl rfl rfl Tryz.sizeOf35 rfl rfl .k0 rfl ?_
        refine al_q (q_assign rfl) rfl rfl rfl ?_
        refine al_end ?_
        refine aq_then ?_
        refine ac_ret ?_
        refine aq_inR ?_
        refine aq_thenR ?_
        refine retR Tryz.results18 (.agg (i := 0) rfl rfl Tryz.isAgg35 Tryz.sizeOf35 rfl (.tmp rfl .nil)) .two (fun w9 hs => ?_)
        rw [hE]; exact OutS.bad (by decide) ⟨rfl, hs.below⟩
      · have hE := coastE_fine hv ⟨hw, by have := of_decide_eq_false h2; omega⟩
        have hg9 : S.tick + g ≤ 1000000000 := by have := of_decide_eq_false h2; omega
        refine ac_skip ?_
        refine aq_inN ?_
        refine aq_then ?_
        refine ac_seq ?_
        refine ac_region ?_
        refine al_q (q_loadAll (i := 1) rfl rfl Tryz.isAgg35 Tryz.sizeOf35 rfl) rfl rfl rfl ?_
        refine al_call Tryz.call37 (.cons rfl .nil) rfl rfl (fun w3 hs3 => ?_)
        have hz := hs3.below.size
        refine (rcopy_any RS S _ (hS.below hs3.below) (by omega) (by omega) (by omega) (by omega) (by omega)).mono ?_
        rintro e u3 ⟨x0, rfl, X_0, N_0, hb_3⟩
        refine ⟨_, rfl, hb_3, ?_⟩
        clear hs3
        refine al_new (fun b => .pointer (some ⟨b, 0, none⟩)) (r_alloc Tryz.zeroValue35 rfl) rfl rfl rfl ?_
        intro b4
        refine al_storeAll (i := 0) rfl rfl rfl rfl Tryz.sizeOf35 rfl rfl .k0 rfl ?_
        refine al_end ?_
        refine aq_then ?_
        refine ac_seq ?_
        refine ac_seq ?_
        refine ac_region ?_
        refine al_q (q_assign rfl) rfl rfl rfl ?_
        refine al_end ?_
        refine aq_then ?_
        refine ac_block ?_
        refine ac_loop (β := Nat × StR × Nat × World) (fun x => x.1 ≤ g.toNat ∧ IsS x.2.2.2 x.2.1 (coastD M S x.1) ∧ x.2.1.All (fun b => x.2.2.1 ≤ b) ∧ w.heap.size ≤ x.2.2.1) (fun x => [(2, (.int .i64 g)), (3, (.pointer (some ⟨b1, 0, none⟩))), (6, (.pointer (some ⟨b3, 0, none⟩))), (7, (.int .i64 0)), (8, (.pointer (some ⟨b4, 0, none⟩))), (9, (.int .i64 (x.1 : Int)))]) (fun x => [(x.2.2.1, x.2.2.2)]) (fun x => [(b4, .cells [.int .i64 (coastD M S x.1).tick, .slice x.2.1.Q.A x.2.1.Q.la x.2.1.Q.ca, .slice x.2.1.Q.B x.2.1.Q.lb x.2.1.Q.cb, .slice x.2.1.Q.C x.2.1.Q.lc x.2.1.Q.cc, .slice x.2.1.H x.2.1.lh x.2.1.ch, .slice x.2.1.T x.2.1.lt x.2.1.ct]), (b3, _), (b2, _), (b1, _)]) (fun x => g.toNat - x.1) (0, x0, _, _) ⟨by simp only; omega, X_0, N_0, hz⟩ ⟨rfl, rfl, rfl, rfl, rfl, rfl, trivial⟩ (fun w9 hs => hs.firstSnaps 1 rfl) (fun x hF1 => ?_)
        obtain ⟨hxl, X_x, N_x, hlo⟩ := hF1
        refine ac_seq ?_
        refine ac_seq ?_
        refine ac_region ?_
        refine al_q (q_move rfl) rfl rfl rfl ?_
        refine al_q (q_move rfl) rfl rfl rfl ?_
        refine al_q (q_lss rfl rfl) rfl rfl rfl ?_
        refine al_end ?_
        refine aq_then ?_
        refine ac_cond rfl (fun h3 => ?_) (fun h3 => ?_)
        · have hlt : x.1 < g.toNat := by have := of_decide_eq_true h3; omega
          have hfx := coast_fit hf x.1 (by omega)
          have hla : x.2.1.Q.la = M.coils.length := by have := X_x.cur.coils.1; have := hfx.cur.coils.1; omega
          refine ac_skip ?_
          refine aq_then ?_
          refine ac_seq ?_
          refine ac_block ?_
          refine ac_draw 5 (by kernel_rfl) (by kernel_rfl) ?_
          refine ah_take 0 (fun w9 hs => hs) rfl rfl rfl (by kernel_rfl) (by kernel_rfl) (by kernel_rfl) (fun _ _ _ h => h) rfl (q_loadAll (i := 3) rfl rfl Tryz.isAgg29 Tryz.sizeOf29 rfl) ?_
          refine ah_take 1 (fun w9 hs => hs) rfl rfl rfl (by kernel_rfl) (by kernel_rfl) (by kernel_rfl) (fun _ _ _ h => h) rfl (q_loadAll (i := 0) rfl rfl Tryz.isAgg35 Tryz.sizeOf35 rfl) ?_
          refine ah_take 2 (fun w9 hs => hs) rfl rfl rfl (by kernel_rfl) (by kernel_rfl) (by kernel_rfl) (fun _ _ _ h => h) rfl (q_loadAll (i := 0) rfl rfl Tryz.isAgg35 Tryz.sizeOf35 rfl) ?_
          refine ah_one 3 rfl (by kernel_rfl) (fun hok1 hcl1 => ?_)
          refine al_call Tryz.call39 (.cons rfl .nil) rfl rfl (fun w4 hs4 => ?_)
          refine (rcalm_any x.2.1 (coastD M S x.1) _ (hs4.isS (.head _) X_x N_x) (by omega)).mono ?_
          rintro e u4 ⟨b_c, rfl, N_c, hb_4⟩
          refine ⟨_, rfl, hb_4, ?_⟩
          clear hs4
          refine al_end (ah_back hok1 hcl1 (fun w9 hs => (hs.fewer 1 rfl)) ?_)
          refine ah_one 4 rfl (by kernel_rfl) (fun hok2 hcl2 => ?_)
          refine al_call Tryz.call28 (.cons rfl (.cons rfl (.cons rfl .nil))) rfl rfl (fun w5 hs5 => ?_)
          have hz9 := hs5.below.size
          refine (rstep_any R M x.2.1 (coastD M S x.1) (some ⟨b_c, 0, none⟩) x.2.1.Q.C x.2.1.Q.la x.2.1.Q.la x.2.1.Q.lc x.2.1.Q.cc (zerosI M.coils.length) S.C.plasma _ (hM.below hs5.below) (hs5.isS (.tail _ (.head _)) X_x N_x) hfx (by rw [← hla]; exact (hs5.newT (.head _) N_c)) (by have := (hs5.isS (.tail _ (.head _)) X_x N_x).cur.plasma; rwa [coast_plasma] at this) zero_ch (fitP_iff.1 (plasma_ok hf))).mono ?_
          rintro e u5 ⟨x9, rfl, k1_, k2_, hb_5⟩
          refine ⟨_, rfl, hb_5, ?_⟩
          clear hs5
          refine al_end (ah_back hok2 hcl2 (fun w9 hs => (hs.fewer 2 rfl)) ?_)
          refine ah_one 5 rfl (by kernel_rfl) (fun hok3 hcl3 => ?_)
          refine al_storeAll (i := 0) rfl rfl rfl rfl Tryz.sizeOf35 rfl rfl .k0 rfl ?_
          refine al_end (ah_last (by kernel_rfl) ?_)
          refine aq_inN ?_
          refine aq_then ?_
          refine ac_region ?_
          refine al_q (q_move rfl) rfl rfl rfl ?_
          refine al_q (q_add rfl rfl (by omega)) rfl rfl rfl ?_
          refine al_q (q_assign rfl) rfl rfl rfl ?_
          refine al_end ?_
          refine aq_then ?_
          skip
          refine aq_round ((x.1 + 1, x9, _, _)) (by simp only; omega) ⟨by simp only; omega, k1_, k2_, by simp only; omega⟩ ⟨rfl, rfl, rfl, rfl, rfl, rfl, trivial⟩ (fun w9 hs => (hs.firstSnaps 1 rfl))
        · have hge : x.1 = g.toNat := by have := of_decide_eq_false h3; omega
          refine ac_exit ?_
          refine aq_thenE ?_
          refine aq_thenE ?_
          refine aq_hit ?_
          refine aq_then ?_
          refine ac_seq ?_
          refine ac_region ?_
          refine al_q (q_loadAll (i := 0) rfl rfl Tryz.isAgg35 Tryz.sizeOf35 rfl) rfl rfl rfl ?_
          refine al_storeAll (i := 1) rfl rfl rfl rfl Tryz.sizeOf35 rfl rfl .k1 rfl ?_
          refine al_q (q_assign rfl) rfl rfl rfl ?_
          refine al_end ?_
          refine aq_then ?_
          refine ac_ret ?_
          refine retR Tryz.results18 (.agg (i := 1) rfl rfl Tryz.isAgg35 Tryz.sizeOf35 rfl (.tmp rfl .nil)) .two (fun w9 hs => ?_)
          rw [hE, ← hge]; refine OutS.ok ⟨x.2.1, rfl, ?_, N_x.mono (fun b hb => Nat.le_trans hlo hb), hs.below⟩
          exact hs.isS (.head _) X_x N_x

end Go.Proofs.YtkhahbnagbjbiaaGreat
end
