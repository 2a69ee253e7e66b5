import Derived.Test.YtkhahbnagbjbiaaGreatNBJ
import Derived.Test.YtkhahbnagbjbiaaGreatNBN
import Derived.Test.YtkhahbnagbjbiaaGreatNBP
import Derived.Test.YtkhahbnagbjbiaaGreatRows
import Derived.KernelRfl
import Derived.Laws.StructEq
section
/- The specification of layer 3: Copy, over this seat's translation (written by ax_ci26.py). -/
namespace Go.Proofs.YtkhahbnagbjbiaaGreat
set_option linter.unusedVariables false
set_option linter.unusedSimpArgs false
open Go.RowKit

theorem kcp_bl_apiState_0_ (a0 : Value) (ha0 : a0.oneCell' = true) : ∀ w, (Instr.build 35 #[(0, a0)]).run Tryz.prog w = .ok (.agg #[a0, (.slice none 0 0), (.slice none 0 0), (.slice none 0 0), (.slice none 0 0), (.slice none 0 0)]) w := by
  have ea0 : a0.cells = #[a0] := cells_one ha0
  intro w; simp [Instr.build, Instr.fill, cells_agg, Tryz.runUnderlying35, Tryz.zeroValue35, Tryz.sizeOf3, Tryz.sizeOf30, Tryz.sizeOf32, Tryz.sizeOf33, ea0]

theorem kcp_bs_int_0_ : ∀ w, (Instr.buildSlice 30 0 #[]).run Tryz.prog w = .ok (.slice (some ⟨w.heap.size, 0, none⟩) 0 0) (w.alloc (.cells [].toArray 3)) := by
  intro w; (simp [Instr.buildSlice, Instr.fill, cells_agg, newRow, Tryz.runUnderlying30, Tryz.zeroValue3, Tryz.sizeOf3] <;> (rw [(by kernel_rfl : Array.range 0 = #[])]; simp [Value.cells]))

theorem kcp_bl_apiCurrents_0_1_2 (a0 a1 a2 : Value) (ha0 : a0.oneCell' = true) (ha1 : a1.oneCell' = true) (ha2 : a2.oneCell' = true) : ∀ w, (Instr.build 32 #[(0, a0), (1, a1), (2, a2)]).run Tryz.prog w = .ok (.agg #[a0, a1, a2]) w := by
  have ea0 : a0.cells = #[a0] := cells_one ha0
  have ea1 : a1.cells = #[a1] := cells_one ha1
  have ea2 : a2.cells = #[a2] := cells_one ha2
  intro w; simp [Instr.build, Instr.fill, cells_agg, Tryz.runUnderlying32, Tryz.zeroValue32, Tryz.sizeOf30, ea0, ea1, ea2]

theorem kcp_bs_bool_0_ : ∀ w, (Instr.buildSlice 33 0 #[]).run Tryz.prog w = .ok (.slice (some ⟨w.heap.size, 0, none⟩) 0 0) (w.alloc (.cells [].toArray 4)) := by
  intro w; (simp [Instr.buildSlice, Instr.fill, cells_agg, newRow, Tryz.runUnderlying33, Tryz.zeroValue4, Tryz.sizeOf4] <;> (rw [(by kernel_rfl : Array.range 0 = #[])]; simp [Value.cells]))

set_option maxRecDepth 100000 in
theorem rcopy_any (RS : StR) (S : StD) (w : World) (hS : IsS w RS S) (k1 : RS.Q.la ≤ 100000) (k2 : RS.Q.lb ≤ 100000) (k3 : RS.Q.lc ≤ 100000) (k4 : RS.lh ≤ 100000) (k5 : RS.lt ≤ 100000) : Calls Tryz.prog 37 #[(RS.v S.tick)] w (fun e w' => ∃ x : StR, e = .returned (x.v S.tick) ∧ IsS w' x S ∧ x.All (fun b => w.heap.size ≤ b) ∧ Below w.heap.size w w') := by
  have n1 := hS.cur.coils.1
  have n2 := hS.cur.shells.1
  have n3 := hS.cur.plasma.1
  have n4 := hS.heat.1
  have n5 := hS.trip.1
  refine calls_ax (vs := [(RS.v S.tick)]) Tryz.func37 rfl rfl ?_
  refine ac_seq (ac_region ?_)
  refine al_new (fun b => .pointer (some ⟨b, 0, none⟩)) (r_box rfl rfl) rfl rfl rfl ?_
  intro b1
  refine al_new (fun b => .pointer (some ⟨b, 0, none⟩)) (r_alloc Tryz.zeroValue35 rfl) rfl rfl rfl ?_
  intro b2
  refine al_end (aq_then ?_)
  refine ac_seq (ac_region ?_)
  refine al_p (q_fieldAddr 0 rfl Tryz.runUnderlying35 rfl Tryz.sizeOf3 (by decide) rfl) ?_
  refine al_p (q_load (i := 1) rfl rfl rfl Tryz.isAgg3) ?_
  refine al_p (q_build (.cons rfl .nil) (kcp_bl_apiState_0_ _ rfl)) ?_
  refine al_new (fun b => .pointer (some ⟨b, 0, none⟩)) (r_alloc Tryz.zeroValue35 rfl) rfl rfl rfl ?_
  intro b3
  refine al_storeAll (i := 0) rfl rfl rfl rfl Tryz.sizeOf35 rfl rfl .k0 rfl ?_
  refine al_end (aq_then ?_)
  refine ac_seq ?_
  refine ac_draw 17 (by kernel_rfl) (by kernel_rfl) ?_
  refine ah_share (fuel' := 4) (listed' := #[true, true, true, true, true, true, true, true, true, true, true, true, true, true, false, false, false, false]) (fun K => ∀ (b1001 : Nat), ∀ (b4001 : Nat), ∀ (c_b4001 : Nat), ∀ (sp_b4001 : List Value), ∀ (hc_b4001 : 0 + RS.Q.la ≤ c_b4001), ∀ (hk_b4001 : c_b4001 ≤ 9223372036854775807), ∀ (b11001 : Nat), ∀ (b18001 : Nat), ∀ (c_b18001 : Nat), ∀ (sp_b18001 : List Value), ∀ (hc_b18001 : 0 + RS.Q.lb ≤ c_b18001), ∀ (hk_b18001 : c_b18001 ≤ 9223372036854775807), ∀ (b22001 : Nat), K [(1, (.pointer (some ⟨b1, 0, none⟩))), (2, (.pointer (some ⟨b2, 0, none⟩))), (3, (.pointer (some ⟨b3, 0, none⟩))), (7, (.slice (some ⟨b1001, 0, none⟩) 0 0)), (8, (.pointer (some ⟨b1, 1, none⟩))), (9, (.pointer (some ⟨b1, 1, none⟩))), (10, (.slice RS.Q.A RS.Q.la RS.Q.ca)), (11, (.slice (some ⟨b4001, 0, none⟩) (0 + RS.Q.la) c_b4001)), (12, (.slice (some ⟨b11001, 0, none⟩) 0 0)), (13, (.pointer (some ⟨b1, 1, none⟩))), (14, (.pointer (some ⟨b1, 2, none⟩))), (15, (.slice RS.Q.B RS.Q.lb RS.Q.cb)), (16, (.slice (some ⟨b18001, 0, none⟩) (0 + RS.Q.lb) c_b18001)), (17, (.slice (some ⟨b22001, 0, none⟩) 0 0)), (18, (.pointer (some ⟨b1, 1, none⟩))), (19, (.pointer (some ⟨b1, 3, none⟩))), (20, (.slice RS.Q.C RS.Q.lc RS.Q.cc))] [(b22001, .cells []), (b18001, .cells (([] ++ (S.C.shells.flatMap intCells)) ++ sp_b18001)), (b4001, .cells (([] ++ (S.C.coils.flatMap intCells)) ++ sp_b4001)), (b3, .cells [(.int .i64 S.tick), (.slice none 0 0), (.slice none 0 0), (.slice none 0 0), (.slice none 0 0), (.slice none 0 0)]), (b2, .cells [(.int .i64 0), (.slice none 0 0), (.slice none 0 0), (.slice none 0 0), (.slice none 0 0), (.slice none 0 0)]), (b1, .cells [(.int .i64 S.tick), (.slice RS.Q.A RS.Q.la RS.Q.ca), (.slice RS.Q.B RS.Q.lb RS.Q.cb), (.slice RS.Q.C RS.Q.lc RS.Q.cc), (.slice RS.H RS.lh RS.ch), (.slice RS.T RS.lt RS.ct)])]) ?_ (fun hS1_0 => ?_)
  · intro b1001 b4001 c_b4001 sp_b4001 hc_b4001 hk_b4001 b11001 b18001 c_b18001 sp_b18001 hc_b18001 hk_b18001 b22001
    refine ah_one 14 rfl (by kernel_rfl) (fun hok1 hcl1 => ?_)
    refine al_appendS (i := 0) (z := 1) (bytes := 8) (zv := (.int .i64 0)) (xs := []) (sp := []) (vs := (S.C.plasma.flatMap intCells)) rfl rfl (by simp) (by simp) (by omega) (by omega) rfl (Sor.list (enc := intCells) (zs := S.C.plasma) (fun _ => rfl) (fun _ => rfl) hS.cur.plasma.1 (fun w9 hs => hS.cur.plasma.below hs.below)) Tryz.underlying30 (by kernel_rfl) rfl (by omega) (by decide) rfl rfl (fun b4 c_b4 sp_b4 hc_b4 hk_b4 hl_b4 => ?_)
    refine ⟨_, .k0, ?_⟩
    refine al_end (ah_back hok1 hcl1 (fun w9 hs => (hs.tail 3 rfl)) ?_)
    refine ah_t 15 (fun w9 hs => (hs.tail 3 rfl)) rfl rfl (by kernel_rfl) (q_build (.cons rfl (.cons rfl (.cons rfl .nil))) (kcp_bl_apiCurrents_0_1_2 _ _ _ rfl rfl rfl)) ?_
    refine ah_t 16 (fun w9 hs => (hs.tail 3 rfl)) rfl rfl (by kernel_rfl) (q_fieldAddr 1 rfl Tryz.runUnderlying35 rfl Tryz.sizeOf32 (by decide) rfl) ?_
    refine ah_one 17 rfl (by kernel_rfl) (fun hok2 hcl2 => ?_)
    refine al_storeSub (i := 3) rfl rfl rfl Tryz.sizeOf32 rfl (.s (.z (.s (.s (.s (.z)))))) rfl .k3 rfl ?_
    refine al_end (ah_last (by kernel_rfl) ?_)
    refine aq_then ?_
    refine ac_seq (ac_region ?_)
    refine al_new (fun b => .slice (some ⟨b, 0, none⟩) 0 0) (r_buildSlice .nil (kcp_bs_int_0_)) rfl rfl rfl ?_
    intro b5
    refine al_p (q_fieldAddr 4 rfl Tryz.runUnderlying35 rfl Tryz.sizeOf30 (by decide) rfl) ?_
    refine al_p (q_load (i := 6) rfl rfl rfl Tryz.isAgg30) ?_
    refine al_appendS (i := 0) (z := 1) (bytes := 8) (zv := (.int .i64 0)) (xs := []) (sp := []) (vs := (S.heat.flatMap intCells)) rfl rfl (by simp) (by simp) (by omega) (by omega) rfl (Sor.list (enc := intCells) (zs := S.heat) (fun _ => rfl) (fun _ => rfl) hS.heat.1 (fun w9 hs => hS.heat.below hs.below)) Tryz.underlying30 (by kernel_rfl) rfl (by omega) (by decide) rfl rfl (fun b6 c_b6 sp_b6 hc_b6 hk_b6 hl_b6 => ?_)
    refine ⟨_, .k0, ?_⟩
    refine al_p (q_fieldAddr 4 rfl Tryz.runUnderlying35 rfl Tryz.sizeOf30 (by decide) rfl) ?_
    refine al_store1 (i := 4) rfl rfl rfl rfl Tryz.sizeOf30 .k4 .k4 rfl ?_
    refine al_end (aq_then ?_)
    refine ac_seq (ac_region ?_)
    refine al_new (fun b => .slice (some ⟨b, 0, none⟩) 0 0) (r_buildSlice .nil (kcp_bs_bool_0_)) rfl rfl rfl ?_
    intro b7
    refine al_p (q_fieldAddr 5 rfl Tryz.runUnderlying35 rfl Tryz.sizeOf33 (by decide) rfl) ?_
    refine al_p (q_load (i := 7) rfl rfl rfl Tryz.isAgg33) ?_
    refine al_appendS (i := 0) (z := 1) (bytes := 1) (zv := (.bool false)) (xs := []) (sp := []) (vs := (S.trip.flatMap boolCells)) rfl rfl (by simp) (by simp) (by omega) (by omega) rfl (Sor.list (enc := boolCells) (zs := S.trip) (fun _ => rfl) (fun _ => rfl) hS.trip.1 (fun w9 hs => hS.trip.below hs.below)) Tryz.underlying33 (by kernel_rfl) rfl (by omega) (by decide) rfl rfl (fun b8 c_b8 sp_b8 hc_b8 hk_b8 hl_b8 => ?_)
    refine ⟨_, .k0, ?_⟩
    refine al_p (q_fieldAddr 5 rfl Tryz.runUnderlying35 rfl Tryz.sizeOf33 (by decide) rfl) ?_
    refine al_store1 (i := 5) rfl rfl rfl rfl Tryz.sizeOf33 .k5 .k5 rfl ?_
    refine al_end (aq_then ?_)
    refine ac_seq (ac_region ?_)
    refine al_p (q_loadAll (i := 5) rfl rfl Tryz.isAgg35 Tryz.sizeOf35 rfl) ?_
    refine al_storeAll (i := 6) rfl rfl rfl rfl Tryz.sizeOf35 rfl rfl .k6 rfl ?_
    refine al_end (aq_then ?_)
    refine ac_ret ?_
    refine retR Tryz.results37 (.agg (i := 6) rfl rfl Tryz.isAgg35 Tryz.sizeOf35 rfl .nil) .one (fun w9 hs => ?_)
    have NA : NewT 1 intCells w.heap.size w9 (some ⟨b4001, 0, none⟩) (0 + RS.Q.la) c_b4001 S.C.coils := ⟨isT_box (n := 1) (enc := intCells) (zs := S.C.coils) (fun _ => rfl) (hs.at 4 rfl) (by simp) (by omega), fun b off e => hs.new 4 rfl b off e, by omega, hk_b4001⟩
    have NB : NewT 1 intCells w.heap.size w9 (some ⟨b18001, 0, none⟩) (0 + RS.Q.lb) c_b18001 S.C.shells := ⟨isT_box (n := 1) (enc := intCells) (zs := S.C.shells) (fun _ => rfl) (hs.at 3 rfl) (by simp) (by omega), fun b off e => hs.new 3 rfl b off e, by omega, hk_b18001⟩
    have NC : NewT 1 intCells w.heap.size w9 (some ⟨b4, 0, none⟩) (0 + RS.Q.lc) c_b4 S.C.plasma := ⟨isT_box (n := 1) (enc := intCells) (zs := S.C.plasma) (fun _ => rfl) (hs.at 2 rfl) (by simp) (by omega), fun b off e => hs.new 2 rfl b off e, by omega, hk_b4⟩
    have ND : NewT 1 intCells w.heap.size w9 (some ⟨b6, 0, none⟩) (0 + RS.lh) c_b6 S.heat := ⟨isT_box (n := 1) (enc := intCells) (zs := S.heat) (fun _ => rfl) (hs.at 1 rfl) (by simp) (by omega), fun b off e => hs.new 1 rfl b off e, by omega, hk_b6⟩
    have NE : NewT 1 boolCells w.heap.size w9 (some ⟨b8, 0, none⟩) (0 + RS.lt) c_b8 S.trip := ⟨isT_box (n := 1) (enc := boolCells) (zs := S.trip) (fun _ => rfl) (hs.at 0 rfl) (by simp) (by omega), fun b off e => hs.new 0 rfl b off e, by omega, hk_b8⟩
    exact ⟨⟨⟨some ⟨b4001, 0, none⟩, some ⟨b18001, 0, none⟩, some ⟨b4, 0, none⟩, 0 + RS.Q.la, c_b4001, 0 + RS.Q.lb, c_b18001, 0 + RS.Q.lc, c_b4⟩, some ⟨b6, 0, none⟩, some ⟨b8, 0, none⟩, 0 + RS.lh, c_b6, 0 + RS.lt, c_b8⟩, rfl, ⟨⟨NA.isT, NB.isT, NC.isT, NA.le.1, NB.le.1, NC.le.1, NA.le.2, NB.le.2, NC.le.2, by simp only; omega, by simp only; omega, by simp only; omega⟩, ND.isT, NE.isT, ND.le.1, NE.le.1, ND.le.2, NE.le.2, by simp only; omega, by simp only; omega⟩, ⟨NA.new, NB.new, NC.new, ND.new, NE.new⟩, hs.below⟩
  refine ah_share (fuel' := 5) (listed' := #[true, true, true, true, true, true, true, true, true, false, true, true, true, true, false, false, false, false]) (fun K => ∀ (b1001 : Nat), ∀ (b4001 : Nat), ∀ (c_b4001 : Nat), ∀ (sp_b4001 : List Value), ∀ (hc_b4001 : 0 + RS.Q.la ≤ c_b4001), ∀ (hk_b4001 : c_b4001 ≤ 9223372036854775807), ∀ (b11001 : Nat), ∀ (b19001 : Nat), K [(1, (.pointer (some ⟨b1, 0, none⟩))), (2, (.pointer (some ⟨b2, 0, none⟩))), (3, (.pointer (some ⟨b3, 0, none⟩))), (7, (.slice (some ⟨b1001, 0, none⟩) 0 0)), (8, (.pointer (some ⟨b1, 1, none⟩))), (9, (.pointer (some ⟨b1, 1, none⟩))), (10, (.slice RS.Q.A RS.Q.la RS.Q.ca)), (11, (.slice (some ⟨b4001, 0, none⟩) (0 + RS.Q.la) c_b4001)), (12, (.slice (some ⟨b11001, 0, none⟩) 0 0)), (13, (.pointer (some ⟨b1, 1, none⟩))), (14, (.pointer (some ⟨b1, 2, none⟩))), (15, (.slice RS.Q.B RS.Q.lb RS.Q.cb)), (17, (.slice (some ⟨b19001, 0, none⟩) 0 0)), (18, (.pointer (some ⟨b1, 1, none⟩))), (19, (.pointer (some ⟨b1, 3, none⟩))), (20, (.slice RS.Q.C RS.Q.lc RS.Q.cc))] [(b19001, .cells []), (b11001, .cells []), (b4001, .cells (([] ++ (S.C.coils.flatMap intCells)) ++ sp_b4001)), (b3, .cells [(.int .i64 S.tick), (.slice none 0 0), (.slice none 0 0), (.slice none 0 0), (.slice none 0 0), (.slice none 0 0)]), (b2, .cells [(.int .i64 0), (.slice none 0 0), (.slice none 0 0), (.slice none 0 0), (.slice none 0 0), (.slice none 0 0)]), (b1, .cells [(.int .i64 S.tick), (.slice RS.Q.A RS.Q.la RS.Q.ca), (.slice RS.Q.B RS.Q.lb RS.Q.cb), (.slice RS.Q.C RS.Q.lc RS.Q.cc), (.slice RS.H RS.lh RS.ch), (.slice RS.T RS.lt RS.ct)])]) ?_ (fun hS1_1 => ?_)
  · intro b1001 b4001 c_b4001 sp_b4001 hc_b4001 hk_b4001 b11001 b19001
    refine ah_one 9 rfl (by kernel_rfl) (fun hok3 hcl3 => ?_)
    refine al_appendS (i := 1) (z := 1) (bytes := 8) (zv := (.int .i64 0)) (xs := []) (sp := []) (vs := (S.C.shells.flatMap intCells)) rfl rfl (by simp) (by simp) (by omega) (by omega) rfl (Sor.list (enc := intCells) (zs := S.C.shells) (fun _ => rfl) (fun _ => rfl) hS.cur.shells.1 (fun w9 hs => hS.cur.shells.below hs.below)) Tryz.underlying30 (by kernel_rfl) rfl (by omega) (by decide) rfl rfl (fun b9 c_b9 sp_b9 hc_b9 hk_b9 hl_b9 => ?_)
    refine ⟨_, .k1, ?_⟩
    refine al_end (ah_back hok3 hcl3 (fun w9 hs => (hs.tail 3 rfl)) ?_)
    exact ah_to (hS1_0 b1001 b4001 c_b4001 sp_b4001 hc_b4001 hk_b4001 b11001 b9 c_b9 sp_b9 hc_b9 hk_b9 b19001) rfl (by kernel_rfl) ⟨rfl, rfl, rfl, rfl, rfl, rfl, rfl, rfl, rfl, rfl, rfl, rfl, rfl, rfl, rfl, rfl, rfl, trivial⟩ (fun w9 hs => hs)
  refine ah_share (fuel' := 6) (listed' := #[true, true, true, true, true, true, true, true, true, false, false, true, true, true, false, false, false, false]) (fun K => ∀ (b1001 : Nat), ∀ (b4001 : Nat), ∀ (c_b4001 : Nat), ∀ (sp_b4001 : List Value), ∀ (hc_b4001 : 0 + RS.Q.la ≤ c_b4001), ∀ (hk_b4001 : c_b4001 ≤ 9223372036854775807), ∀ (b11001 : Nat), K [(1, (.pointer (some ⟨b1, 0, none⟩))), (2, (.pointer (some ⟨b2, 0, none⟩))), (3, (.pointer (some ⟨b3, 0, none⟩))), (7, (.slice (some ⟨b1001, 0, none⟩) 0 0)), (8, (.pointer (some ⟨b1, 1, none⟩))), (9, (.pointer (some ⟨b1, 1, none⟩))), (10, (.slice RS.Q.A RS.Q.la RS.Q.ca)), (11, (.slice (some ⟨b4001, 0, none⟩) (0 + RS.Q.la) c_b4001)), (12, (.slice (some ⟨b11001, 0, none⟩) 0 0)), (13, (.pointer (some ⟨b1, 1, none⟩))), (14, (.pointer (some ⟨b1, 2, none⟩))), (15, (.slice RS.Q.B RS.Q.lb RS.Q.cb)), (18, (.pointer (some ⟨b1, 1, none⟩))), (19, (.pointer (some ⟨b1, 3, none⟩))), (20, (.slice RS.Q.C RS.Q.lc RS.Q.cc))] [(b11001, .cells []), (b4001, .cells (([] ++ (S.C.coils.flatMap intCells)) ++ sp_b4001)), (b3, .cells [(.int .i64 S.tick), (.slice none 0 0), (.slice none 0 0), (.slice none 0 0), (.slice none 0 0), (.slice none 0 0)]), (b2, .cells [(.int .i64 0), (.slice none 0 0), (.slice none 0 0), (.slice none 0 0), (.slice none 0 0), (.slice none 0 0)]), (b1, .cells [(.int .i64 S.tick), (.slice RS.Q.A RS.Q.la RS.Q.ca), (.slice RS.Q.B RS.Q.lb RS.Q.cb), (.slice RS.Q.C RS.Q.lc RS.Q.cc), (.slice RS.H RS.lh RS.ch), (.slice RS.T RS.lt RS.ct)])]) ?_ (fun hS1_2 => ?_)
  · intro b1001 b4001 c_b4001 sp_b4001 hc_b4001 hk_b4001 b11001
    refine ah_two 9 10 rfl rfl  (by kernel_rfl) (fun hok4 hcl4 => ?_) (fun hok4 hcl4 => ?_)
    · refine al_appendS (i := 0) (z := 1) (bytes := 8) (zv := (.int .i64 0)) (xs := []) (sp := []) (vs := (S.C.shells.flatMap intCells)) rfl rfl (by simp) (by simp) (by omega) (by omega) rfl (Sor.list (enc := intCells) (zs := S.C.shells) (fun _ => rfl) (fun _ => rfl) hS.cur.shells.1 (fun w9 hs => hS.cur.shells.below hs.below)) Tryz.underlying30 (by kernel_rfl) rfl (by omega) (by decide) rfl rfl (fun b10 c_b10 sp_b10 hc_b10 hk_b10 hl_b10 => ?_)
      refine ⟨_, .k0, ?_⟩
      refine al_end (ah_back hok4 hcl4 (fun w9 hs => (hs.tail 2 rfl)) ?_)
      refine ah_one 10 rfl (by kernel_rfl) (fun hok5 hcl5 => ?_)
      refine al_new (fun b => .slice (some ⟨b, 0, none⟩) 0 0) (r_buildSlice .nil (kcp_bs_int_0_)) rfl rfl rfl ?_
      intro b11
      refine al_end (ah_back hok5 hcl5 (fun w9 hs => (hs.tail 3 rfl)) ?_)
      exact ah_to (hS1_0 b1001 b4001 c_b4001 sp_b4001 hc_b4001 hk_b4001 b11001 b10 c_b10 sp_b10 hc_b10 hk_b10 b11) rfl (by kernel_rfl) ⟨rfl, rfl, rfl, rfl, rfl, rfl, rfl, rfl, rfl, rfl, rfl, rfl, rfl, rfl, rfl, rfl, rfl, trivial⟩ (fun w9 hs => hs)
    · refine al_new (fun b => .slice (some ⟨b, 0, none⟩) 0 0) (r_buildSlice .nil (kcp_bs_int_0_)) rfl rfl rfl ?_
      intro b12
      refine al_end (ah_back hok4 hcl4 (fun w9 hs => (hs.tail 3 rfl)) ?_)
      exact ah_to (hS1_1 b1001 b4001 c_b4001 sp_b4001 hc_b4001 hk_b4001 b11001 b12) rfl (by kernel_rfl) ⟨rfl, rfl, rfl, rfl, rfl, rfl, rfl, rfl, rfl, rfl, rfl, rfl, rfl, rfl, rfl, rfl, trivial⟩ (fun w9 hs => hs)
  refine ah_share (fuel' := 6) (listed' := #[true, true, true, true, true, false, true, true, true, false, true, true, true, true, false, false, false, false]) (fun K => ∀ (b1001 : Nat), ∀ (b4001 : Nat), ∀ (c_b4001 : Nat), ∀ (sp_b4001 : List Value), ∀ (hc_b4001 : 0 + RS.Q.la ≤ c_b4001), ∀ (hk_b4001 : c_b4001 ≤ 9223372036854775807), ∀ (b12001 : Nat), K [(1, (.pointer (some ⟨b1, 0, none⟩))), (2, (.pointer (some ⟨b2, 0, none⟩))), (3, (.pointer (some ⟨b3, 0, none⟩))), (7, (.slice (some ⟨b1001, 0, none⟩) 0 0)), (8, (.pointer (some ⟨b1, 1, none⟩))), (9, (.pointer (some ⟨b1, 1, none⟩))), (10, (.slice RS.Q.A RS.Q.la RS.Q.ca)), (11, (.slice (some ⟨b4001, 0, none⟩) (0 + RS.Q.la) c_b4001)), (13, (.pointer (some ⟨b1, 1, none⟩))), (14, (.pointer (some ⟨b1, 2, none⟩))), (15, (.slice RS.Q.B RS.Q.lb RS.Q.cb)), (17, (.slice (some ⟨b12001, 0, none⟩) 0 0)), (18, (.pointer (some ⟨b1, 1, none⟩))), (19, (.pointer (some ⟨b1, 3, none⟩))), (20, (.slice RS.Q.C RS.Q.lc RS.Q.cc))] [(b12001, .cells []), (b4001, .cells (([] ++ (S.C.coils.flatMap intCells)) ++ sp_b4001)), (b3, .cells [(.int .i64 S.tick), (.slice none 0 0), (.slice none 0 0), (.slice none 0 0), (.slice none 0 0), (.slice none 0 0)]), (b2, .cells [(.int .i64 0), (.slice none 0 0), (.slice none 0 0), (.slice none 0 0), (.slice none 0 0), (.slice none 0 0)]), (b1, .cells [(.int .i64 S.tick), (.slice RS.Q.A RS.Q.la RS.Q.ca), (.slice RS.Q.B RS.Q.lb RS.Q.cb), (.slice RS.Q.C RS.Q.lc RS.Q.cc), (.slice RS.H RS.lh RS.ch), (.slice RS.T RS.lt RS.ct)])]) ?_ (fun hS1_3 => ?_)
  · intro b1001 b4001 c_b4001 sp_b4001 hc_b4001 hk_b4001 b12001
    refine ah_one 5 rfl (by kernel_rfl) (fun hok6 hcl6 => ?_)
    refine al_new (fun b => .slice (some ⟨b, 0, none⟩) 0 0) (r_buildSlice .nil (kcp_bs_int_0_)) rfl rfl rfl ?_
    intro b13
    refine al_end (ah_back hok6 hcl6 (fun w9 hs => (hs.tail 3 rfl)) ?_)
    exact ah_to (hS1_1 b1001 b4001 c_b4001 sp_b4001 hc_b4001 hk_b4001 b13 b12001) rfl (by kernel_rfl) ⟨rfl, rfl, rfl, rfl, rfl, rfl, rfl, rfl, rfl, rfl, rfl, rfl, rfl, rfl, rfl, rfl, trivial⟩ (fun w9 hs => hs.pm (.cons (.there (.here)) (.refl)))
  refine ah_share (fuel' := 6) (listed' := #[true, true, true, true, false, true, true, true, true, false, true, true, true, true, false, false, false, false]) (fun K => ∀ (b1001 : Nat), ∀ (b5001 : Nat), ∀ (b14001 : Nat), K [(1, (.pointer (some ⟨b1, 0, none⟩))), (2, (.pointer (some ⟨b2, 0, none⟩))), (3, (.pointer (some ⟨b3, 0, none⟩))), (7, (.slice (some ⟨b1001, 0, none⟩) 0 0)), (8, (.pointer (some ⟨b1, 1, none⟩))), (9, (.pointer (some ⟨b1, 1, none⟩))), (10, (.slice RS.Q.A RS.Q.la RS.Q.ca)), (12, (.slice (some ⟨b5001, 0, none⟩) 0 0)), (13, (.pointer (some ⟨b1, 1, none⟩))), (14, (.pointer (some ⟨b1, 2, none⟩))), (15, (.slice RS.Q.B RS.Q.lb RS.Q.cb)), (17, (.slice (some ⟨b14001, 0, none⟩) 0 0)), (18, (.pointer (some ⟨b1, 1, none⟩))), (19, (.pointer (some ⟨b1, 3, none⟩))), (20, (.slice RS.Q.C RS.Q.lc RS.Q.cc))] [(b14001, .cells []), (b5001, .cells []), (b1001, .cells []), (b3, .cells [(.int .i64 S.tick), (.slice none 0 0), (.slice none 0 0), (.slice none 0 0), (.slice none 0 0), (.slice none 0 0)]), (b2, .cells [(.int .i64 0), (.slice none 0 0), (.slice none 0 0), (.slice none 0 0), (.slice none 0 0), (.slice none 0 0)]), (b1, .cells [(.int .i64 S.tick), (.slice RS.Q.A RS.Q.la RS.Q.ca), (.slice RS.Q.B RS.Q.lb RS.Q.cb), (.slice RS.Q.C RS.Q.lc RS.Q.cc), (.slice RS.H RS.lh RS.ch), (.slice RS.T RS.lt RS.ct)])]) ?_ (fun hS1_4 => ?_)
  · intro b1001 b5001 b14001
    refine ah_one 4 rfl (by kernel_rfl) (fun hok7 hcl7 => ?_)
    refine al_appendS (i := 2) (z := 1) (bytes := 8) (zv := (.int .i64 0)) (xs := []) (sp := []) (vs := (S.C.coils.flatMap intCells)) rfl rfl (by simp) (by simp) (by omega) (by omega) rfl (Sor.list (enc := intCells) (zs := S.C.coils) (fun _ => rfl) (fun _ => rfl) hS.cur.coils.1 (fun w9 hs => hS.cur.coils.below hs.below)) Tryz.underlying30 (by kernel_rfl) rfl (by omega) (by decide) rfl rfl (fun b14 c_b14 sp_b14 hc_b14 hk_b14 hl_b14 => ?_)
    refine ⟨_, .k2, ?_⟩
    refine al_end (ah_back hok7 hcl7 (fun w9 hs => (hs.tail 3 rfl)) ?_)
    exact ah_to (hS1_1 b1001 b14 c_b14 sp_b14 hc_b14 hk_b14 b5001 b14001) rfl (by kernel_rfl) ⟨rfl, rfl, rfl, rfl, rfl, rfl, rfl, rfl, rfl, rfl, rfl, rfl, rfl, rfl, rfl, rfl, trivial⟩ (fun w9 hs => hs)
  refine ah_share (fuel' := 7) (listed' := #[true, true, true, true, false, true, true, true, true, false, false, true, true, true, false, false, false, false]) (fun K => ∀ (b1001 : Nat), ∀ (b5001 : Nat), K [(1, (.pointer (some ⟨b1, 0, none⟩))), (2, (.pointer (some ⟨b2, 0, none⟩))), (3, (.pointer (some ⟨b3, 0, none⟩))), (7, (.slice (some ⟨b1001, 0, none⟩) 0 0)), (8, (.pointer (some ⟨b1, 1, none⟩))), (9, (.pointer (some ⟨b1, 1, none⟩))), (10, (.slice RS.Q.A RS.Q.la RS.Q.ca)), (12, (.slice (some ⟨b5001, 0, none⟩) 0 0)), (13, (.pointer (some ⟨b1, 1, none⟩))), (14, (.pointer (some ⟨b1, 2, none⟩))), (15, (.slice RS.Q.B RS.Q.lb RS.Q.cb)), (18, (.pointer (some ⟨b1, 1, none⟩))), (19, (.pointer (some ⟨b1, 3, none⟩))), (20, (.slice RS.Q.C RS.Q.lc RS.Q.cc))] [(b5001, .cells []), (b1001, .cells []), (b3, .cells [(.int .i64 S.tick), (.slice none 0 0), (.slice none 0 0), (.slice none 0 0), (.slice none 0 0), (.slice none 0 0)]), (b2, .cells [(.int .i64 0), (.slice none 0 0), (.slice none 0 0), (.slice none 0 0), (.slice none 0 0), (.slice none 0 0)]), (b1, .cells [(.int .i64 S.tick), (.slice RS.Q.A RS.Q.la RS.Q.ca), (.slice RS.Q.B RS.Q.lb RS.Q.cb), (.slice RS.Q.C RS.Q.lc RS.Q.cc), (.slice RS.H RS.lh RS.ch), (.slice RS.T RS.lt RS.ct)])]) ?_ (fun hS1_5 => ?_)
  · intro b1001 b5001
    refine ah_two 4 10 rfl rfl  (by kernel_rfl) (fun hok8 hcl8 => ?_) (fun hok8 hcl8 => ?_)
    · refine al_appendS (i := 1) (z := 1) (bytes := 8) (zv := (.int .i64 0)) (xs := []) (sp := []) (vs := (S.C.coils.flatMap intCells)) rfl rfl (by simp) (by simp) (by omega) (by omega) rfl (Sor.list (enc := intCells) (zs := S.C.coils) (fun _ => rfl) (fun _ => rfl) hS.cur.coils.1 (fun w9 hs => hS.cur.coils.below hs.below)) Tryz.underlying30 (by kernel_rfl) rfl (by omega) (by decide) rfl rfl (fun b15 c_b15 sp_b15 hc_b15 hk_b15 hl_b15 => ?_)
      refine ⟨_, .k1, ?_⟩
      refine al_end (ah_back hok8 hcl8 (fun w9 hs => (hs.tail 2 rfl)) ?_)
      exact ah_to (hS1_2 b1001 b15 c_b15 sp_b15 hc_b15 hk_b15 b5001) rfl (by kernel_rfl) ⟨rfl, rfl, rfl, rfl, rfl, rfl, rfl, rfl, rfl, rfl, rfl, rfl, rfl, rfl, rfl, trivial⟩ (fun w9 hs => hs)
    · refine al_new (fun b => .slice (some ⟨b, 0, none⟩) 0 0) (r_buildSlice .nil (kcp_bs_int_0_)) rfl rfl rfl ?_
      intro b16
      refine al_end (ah_back hok8 hcl8 (fun w9 hs => (hs.tail 3 rfl)) ?_)
      exact ah_to (hS1_4 b1001 b5001 b16) rfl (by kernel_rfl) ⟨rfl, rfl, rfl, rfl, rfl, rfl, rfl, rfl, rfl, rfl, rfl, rfl, rfl, rfl, rfl, trivial⟩ (fun w9 hs => hs)
  refine ah_share (fuel' := 7) (listed' := #[true, true, true, true, false, false, true, true, true, false, true, true, true, true, false, false, false, false]) (fun K => ∀ (b1001 : Nat), ∀ (b6001 : Nat), K [(1, (.pointer (some ⟨b1, 0, none⟩))), (2, (.pointer (some ⟨b2, 0, none⟩))), (3, (.pointer (some ⟨b3, 0, none⟩))), (7, (.slice (some ⟨b1001, 0, none⟩) 0 0)), (8, (.pointer (some ⟨b1, 1, none⟩))), (9, (.pointer (some ⟨b1, 1, none⟩))), (10, (.slice RS.Q.A RS.Q.la RS.Q.ca)), (13, (.pointer (some ⟨b1, 1, none⟩))), (14, (.pointer (some ⟨b1, 2, none⟩))), (15, (.slice RS.Q.B RS.Q.lb RS.Q.cb)), (17, (.slice (some ⟨b6001, 0, none⟩) 0 0)), (18, (.pointer (some ⟨b1, 1, none⟩))), (19, (.pointer (some ⟨b1, 3, none⟩))), (20, (.slice RS.Q.C RS.Q.lc RS.Q.cc))] [(b6001, .cells []), (b1001, .cells []), (b3, .cells [(.int .i64 S.tick), (.slice none 0 0), (.slice none 0 0), (.slice none 0 0), (.slice none 0 0), (.slice none 0 0)]), (b2, .cells [(.int .i64 0), (.slice none 0 0), (.slice none 0 0), (.slice none 0 0), (.slice none 0 0), (.slice none 0 0)]), (b1, .cells [(.int .i64 S.tick), (.slice RS.Q.A RS.Q.la RS.Q.ca), (.slice RS.Q.B RS.Q.lb RS.Q.cb), (.slice RS.Q.C RS.Q.lc RS.Q.cc), (.slice RS.H RS.lh RS.ch), (.slice RS.T RS.lt RS.ct)])]) ?_ (fun hS1_6 => ?_)
  · intro b1001 b6001
    refine ah_two 4 5 rfl rfl  (by kernel_rfl) (fun hok9 hcl9 => ?_) (fun hok9 hcl9 => ?_)
    · refine al_appendS (i := 1) (z := 1) (bytes := 8) (zv := (.int .i64 0)) (xs := []) (sp := []) (vs := (S.C.coils.flatMap intCells)) rfl rfl (by simp) (by simp) (by omega) (by omega) rfl (Sor.list (enc := intCells) (zs := S.C.coils) (fun _ => rfl) (fun _ => rfl) hS.cur.coils.1 (fun w9 hs => hS.cur.coils.below hs.below)) Tryz.underlying30 (by kernel_rfl) rfl (by omega) (by decide) rfl rfl (fun b17 c_b17 sp_b17 hc_b17 hk_b17 hl_b17 => ?_)
      refine ⟨_, .k1, ?_⟩
      refine al_end (ah_back hok9 hcl9 (fun w9 hs => (hs.tail 2 rfl)) ?_)
      exact ah_to (hS1_3 b1001 b17 c_b17 sp_b17 hc_b17 hk_b17 b6001) rfl (by kernel_rfl) ⟨rfl, rfl, rfl, rfl, rfl, rfl, rfl, rfl, rfl, rfl, rfl, rfl, rfl, rfl, rfl, trivial⟩ (fun w9 hs => hs)
    · refine al_new (fun b => .slice (some ⟨b, 0, none⟩) 0 0) (r_buildSlice .nil (kcp_bs_int_0_)) rfl rfl rfl ?_
      intro b18
      refine al_end (ah_back hok9 hcl9 (fun w9 hs => (hs.tail 3 rfl)) ?_)
      exact ah_to (hS1_4 b1001 b18 b6001) rfl (by kernel_rfl) ⟨rfl, rfl, rfl, rfl, rfl, rfl, rfl, rfl, rfl, rfl, rfl, rfl, rfl, rfl, rfl, trivial⟩ (fun w9 hs => hs.pm (.cons (.there (.here)) (.refl)))
  refine ah_share (fuel' := 7) (listed' := #[false, true, true, true, false, true, true, true, true, false, true, true, true, true, false, false, false, false]) (fun K => ∀ (b2001 : Nat), ∀ (b8001 : Nat), K [(1, (.pointer (some ⟨b1, 0, none⟩))), (2, (.pointer (some ⟨b2, 0, none⟩))), (3, (.pointer (some ⟨b3, 0, none⟩))), (8, (.pointer (some ⟨b1, 1, none⟩))), (9, (.pointer (some ⟨b1, 1, none⟩))), (10, (.slice RS.Q.A RS.Q.la RS.Q.ca)), (12, (.slice (some ⟨b2001, 0, none⟩) 0 0)), (13, (.pointer (some ⟨b1, 1, none⟩))), (14, (.pointer (some ⟨b1, 2, none⟩))), (15, (.slice RS.Q.B RS.Q.lb RS.Q.cb)), (17, (.slice (some ⟨b8001, 0, none⟩) 0 0)), (18, (.pointer (some ⟨b1, 1, none⟩))), (19, (.pointer (some ⟨b1, 3, none⟩))), (20, (.slice RS.Q.C RS.Q.lc RS.Q.cc))] [(b8001, .cells []), (b2001, .cells []), (b3, .cells [(.int .i64 S.tick), (.slice none 0 0), (.slice none 0 0), (.slice none 0 0), (.slice none 0 0), (.slice none 0 0)]), (b2, .cells [(.int .i64 0), (.slice none 0 0), (.slice none 0 0), (.slice none 0 0), (.slice none 0 0), (.slice none 0 0)]), (b1, .cells [(.int .i64 S.tick), (.slice RS.Q.A RS.Q.la RS.Q.ca), (.slice RS.Q.B RS.Q.lb RS.Q.cb), (.slice RS.Q.C RS.Q.lc RS.Q.cc), (.slice RS.H RS.lh RS.ch), (.slice RS.T RS.lt RS.ct)])]) ?_ (fun hS1_7 => ?_)
  · intro b2001 b8001
    refine ah_one 0 rfl (by kernel_rfl) (fun hok10 hcl10 => ?_)
    refine al_new (fun b => .slice (some ⟨b, 0, none⟩) 0 0) (r_buildSlice .nil (kcp_bs_int_0_)) rfl rfl rfl ?_
    intro b19
    refine al_end (ah_back hok10 hcl10 (fun w9 hs => (hs.tail 3 rfl)) ?_)
    exact ah_to (hS1_4 b19 b2001 b8001) rfl (by kernel_rfl) ⟨rfl, rfl, rfl, rfl, rfl, rfl, rfl, rfl, rfl, rfl, rfl, rfl, rfl, rfl, rfl, trivial⟩ (fun w9 hs => hs.pm (.cons (.there (.here)) ( .cons (.there (.here)) (.refl))))
  · refine ah_t 1 (fun w9 hs => hs) rfl rfl (by kernel_rfl) (q_fieldAddr 1 rfl Tryz.runUnderlying35 rfl Tryz.sizeOf32 (by decide) rfl) ?_
    refine ah_t 2 (fun w9 hs => hs) rfl rfl (by kernel_rfl) (q_fieldAddr 1 rfl Tryz.runUnderlying32 rfl Tryz.sizeOf30 (by decide) rfl) ?_
    refine ah_t 3 (fun w9 hs => hs) rfl rfl (by kernel_rfl) (q_load (i := 2) rfl rfl rfl Tryz.isAgg30) ?_
    refine ah_t 6 (fun w9 hs => hs) rfl rfl (by kernel_rfl) (q_fieldAddr 1 rfl Tryz.runUnderlying35 rfl Tryz.sizeOf32 (by decide) rfl) ?_
    refine ah_t 7 (fun w9 hs => hs) rfl rfl (by kernel_rfl) (q_fieldAddr 2 rfl Tryz.runUnderlying32 rfl Tryz.sizeOf30 (by decide) rfl) ?_
    refine ah_t 8 (fun w9 hs => hs) rfl rfl (by kernel_rfl) (q_load (i := 2) rfl rfl rfl Tryz.isAgg30) ?_
    refine ah_t 11 (fun w9 hs => hs) rfl rfl (by kernel_rfl) (q_fieldAddr 1 rfl Tryz.runUnderlying35 rfl Tryz.sizeOf32 (by decide) rfl) ?_
    refine ah_t 12 (fun w9 hs => hs) rfl rfl (by kernel_rfl) (q_fieldAddr 3 rfl Tryz.runUnderlying32 rfl Tryz.sizeOf30 (by decide) rfl) ?_
    refine ah_t 13 (fun w9 hs => hs) rfl rfl (by kernel_rfl) (q_load (i := 2) rfl rfl rfl Tryz.isAgg30) ?_
    refine ah_three 0 5 10 rfl rfl rfl  (by kernel_rfl) (fun hok11 hcl11 => ?_) (fun hok11 hcl11 => ?_) (fun hok11 hcl11 => ?_)
    · refine al_new (fun b => .slice (some ⟨b, 0, none⟩) 0 0) (r_buildSlice .nil (kcp_bs_int_0_)) rfl rfl rfl ?_
      intro b20
      refine al_end (ah_back hok11 hcl11 (fun w9 hs => (hs.tail 1 rfl)) ?_)
      refine ah_three 4 5 10 rfl rfl rfl  (by kernel_rfl) (fun hok12 hcl12 => ?_) (fun hok12 hcl12 => ?_) (fun hok12 hcl12 => ?_)
      · refine al_appendS (i := 0) (z := 1) (bytes := 8) (zv := (.int .i64 0)) (xs := []) (sp := []) (vs := (S.C.coils.flatMap intCells)) rfl rfl (by simp) (by simp) (by omega) (by omega) rfl (Sor.list (enc := intCells) (zs := S.C.coils) (fun _ => rfl) (fun _ => rfl) hS.cur.coils.1 (fun w9 hs => hS.cur.coils.below hs.below)) Tryz.underlying30 (by kernel_rfl) rfl (by omega) (by decide) rfl rfl (fun b21 c_b21 sp_b21 hc_b21 hk_b21 hl_b21 => ?_)
        refine ⟨_, .k0, ?_⟩
        refine al_end (ah_back hok12 hcl12 (fun w9 hs => (hs.tail 1 rfl)) ?_)
        refine ah_two 5 10 rfl rfl  (by kernel_rfl) (fun hok13 hcl13 => ?_) (fun hok13 hcl13 => ?_)
        · refine al_new (fun b => .slice (some ⟨b, 0, none⟩) 0 0) (r_buildSlice .nil (kcp_bs_int_0_)) rfl rfl rfl ?_
          intro b22
          refine al_end (ah_back hok13 hcl13 (fun w9 hs => (hs.tail 2 rfl)) ?_)
          exact ah_to (hS1_2 b20 b21 c_b21 sp_b21 hc_b21 hk_b21 b22) rfl (by kernel_rfl) ⟨rfl, rfl, rfl, rfl, rfl, rfl, rfl, rfl, rfl, rfl, rfl, rfl, rfl, rfl, rfl, trivial⟩ (fun w9 hs => hs)
        · refine al_new (fun b => .slice (some ⟨b, 0, none⟩) 0 0) (r_buildSlice .nil (kcp_bs_int_0_)) rfl rfl rfl ?_
          intro b23
          refine al_end (ah_back hok13 hcl13 (fun w9 hs => (hs.tail 2 rfl)) ?_)
          exact ah_to (hS1_3 b20 b21 c_b21 sp_b21 hc_b21 hk_b21 b23) rfl (by kernel_rfl) ⟨rfl, rfl, rfl, rfl, rfl, rfl, rfl, rfl, rfl, rfl, rfl, rfl, rfl, rfl, rfl, trivial⟩ (fun w9 hs => hs)
      · refine al_new (fun b => .slice (some ⟨b, 0, none⟩) 0 0) (r_buildSlice .nil (kcp_bs_int_0_)) rfl rfl rfl ?_
        intro b24
        refine al_end (ah_back hok12 hcl12 (fun w9 hs => (hs.tail 2 rfl)) ?_)
        exact ah_to (hS1_5 b20 b24) rfl (by kernel_rfl) ⟨rfl, rfl, rfl, rfl, rfl, rfl, rfl, rfl, rfl, rfl, rfl, rfl, rfl, rfl, trivial⟩ (fun w9 hs => hs)
      · refine al_new (fun b => .slice (some ⟨b, 0, none⟩) 0 0) (r_buildSlice .nil (kcp_bs_int_0_)) rfl rfl rfl ?_
        intro b25
        refine al_end (ah_back hok12 hcl12 (fun w9 hs => (hs.tail 2 rfl)) ?_)
        exact ah_to (hS1_6 b20 b25) rfl (by kernel_rfl) ⟨rfl, rfl, rfl, rfl, rfl, rfl, rfl, rfl, rfl, rfl, rfl, rfl, rfl, rfl, trivial⟩ (fun w9 hs => hs)
    · refine al_new (fun b => .slice (some ⟨b, 0, none⟩) 0 0) (r_buildSlice .nil (kcp_bs_int_0_)) rfl rfl rfl ?_
      intro b26
      refine al_end (ah_back hok11 hcl11 (fun w9 hs => (hs.tail 1 rfl)) ?_)
      refine ah_two 0 10 rfl rfl  (by kernel_rfl) (fun hok14 hcl14 => ?_) (fun hok14 hcl14 => ?_)
      · refine al_new (fun b => .slice (some ⟨b, 0, none⟩) 0 0) (r_buildSlice .nil (kcp_bs_int_0_)) rfl rfl rfl ?_
        intro b27
        refine al_end (ah_back hok14 hcl14 (fun w9 hs => (hs.tail 2 rfl)) ?_)
        exact ah_to (hS1_5 b27 b26) rfl (by kernel_rfl) ⟨rfl, rfl, rfl, rfl, rfl, rfl, rfl, rfl, rfl, rfl, rfl, rfl, rfl, rfl, trivial⟩ (fun w9 hs => hs.pm (.cons (.there (.here)) (.refl)))
      · refine al_new (fun b => .slice (some ⟨b, 0, none⟩) 0 0) (r_buildSlice .nil (kcp_bs_int_0_)) rfl rfl rfl ?_
        intro b28
        refine al_end (ah_back hok14 hcl14 (fun w9 hs => (hs.tail 2 rfl)) ?_)
        exact ah_to (hS1_7 b26 b28) rfl (by kernel_rfl) ⟨rfl, rfl, rfl, rfl, rfl, rfl, rfl, rfl, rfl, rfl, rfl, rfl, rfl, rfl, trivial⟩ (fun w9 hs => hs)
    · refine al_new (fun b => .slice (some ⟨b, 0, none⟩) 0 0) (r_buildSlice .nil (kcp_bs_int_0_)) rfl rfl rfl ?_
      intro b29
      refine al_end (ah_back hok11 hcl11 (fun w9 hs => (hs.tail 1 rfl)) ?_)
      refine ah_two 0 5 rfl rfl  (by kernel_rfl) (fun hok15 hcl15 => ?_) (fun hok15 hcl15 => ?_)
      · refine al_new (fun b => .slice (some ⟨b, 0, none⟩) 0 0) (r_buildSlice .nil (kcp_bs_int_0_)) rfl rfl rfl ?_
        intro b30
        refine al_end (ah_back hok15 hcl15 (fun w9 hs => (hs.tail 2 rfl)) ?_)
        exact ah_to (hS1_6 b30 b29) rfl (by kernel_rfl) ⟨rfl, rfl, rfl, rfl, rfl, rfl, rfl, rfl, rfl, rfl, rfl, rfl, rfl, rfl, trivial⟩ (fun w9 hs => hs.pm (.cons (.there (.here)) (.refl)))
      · refine al_new (fun b => .slice (some ⟨b, 0, none⟩) 0 0) (r_buildSlice .nil (kcp_bs_int_0_)) rfl rfl rfl ?_
        intro b31
        refine al_end (ah_back hok15 hcl15 (fun w9 hs => (hs.tail 2 rfl)) ?_)
        exact ah_to (hS1_7 b31 b29) rfl (by kernel_rfl) ⟨rfl, rfl, rfl, rfl, rfl, rfl, rfl, rfl, rfl, rfl, rfl, rfl, rfl, rfl, trivial⟩ (fun w9 hs => hs.pm (.cons (.there (.here)) (.refl)))

end Go.Proofs.YtkhahbnagbjbiaaGreat
end
section
/- Drawn regions whose last operations change what lies there: from operation m on nothing is kept. -/
namespace Go.Proofs.YtkhahbnagbjbiaaGreat
set_option linter.unusedVariables false
set_option linter.unusedSimpArgs false
set_option autoImplicit false
open Go.RowKit

section
variable {P : Program} {e0 : Cfg} {U : Snaps} {l : Slots} {L : Boxes} {ops : Array Oper} {Q : Exit → Act → World → Prop} {rest : List Oper} {d : Nat}

/-- each operation before m has one behind it, not beyond m, that waits for it; each one behind m waits for m -/
def lateOk (ops : Array Oper) (m : Nat) : Bool :=
  Nat.blt m ops.size && ((List.range m).all fun k => (List.range (m + 1)).any fun j => Nat.blt k j && match ops[j]? with
    | some o => o.after.any fun e => Region.binds .any e && Nat.beq e.on k
    | none => false) && (List.range ops.size).all fun j => Nat.ble j m || match ops[j]? with
    | some o => o.after.any fun e => Region.binds .any e && Nat.beq e.on m
    | none => false
theorem late_all {ops : Array Oper} {m j : Nat} {listed : Array Bool} (hok : lateOk ops m = true) (hc : DrawnTo ops listed) (hl : j ∈ Region.ready .any ops listed) (hj : m ≤ j) : ∀ k, k < m → listed.getD k false = true := by
  obtain ⟨-, oj, hoj, hall⟩ := mem_ready.1 hl
  have hjs : j < ops.size := (Array.getElem?_eq_some_iff.1 hoj).1
  simp only [lateOk, Bool.and_eq_true, List.all_eq_true, List.any_eq_true, List.mem_range] at hok
  obtain ⟨⟨hms, h1⟩, h2⟩ := hok
  have hms : m < ops.size := by simpa using hms
  -- what m waits for is done
  have hm : ∀ o, ops[m]? = some o → ∀ e ∈ o.after, Region.binds .any e = true → listed.getD e.on false = true := by
    intro o ho
    rcases Nat.eq_or_lt_of_le hj with h | h
    · subst h
      rw [hoj] at ho
      obtain rfl := Option.some.inj ho
      exact hall
    · have h3 := h2 j hjs
      have h4 : Nat.ble j m = false := by rw [Bool.eq_false_iff]; simp; omega
      rw [h4, Bool.false_or, hoj] at h3
      obtain ⟨e, he, hb⟩ := Array.any_eq_true'.1 h3
      simp only [Bool.and_eq_true] at hb
      have hon : e.on = m := by simpa using hb.2
      have hlm := hall e he hb.1
      rw [hon] at hlm
      exact hc m o ho hlm
  have key : ∀ (n k : Nat), k < m → m - k ≤ n → listed.getD k false = true := by
    intro n
    induction n with
    | zero => intro k hk hn; omega
    | succ n ih =>
      intro k hk hn
      obtain ⟨q, hq, hkq, h3⟩ := h1 k hk
      have hkq : k < q := by simpa using hkq
      cases ho : ops[q]? with
      | none => simp [ho] at h3
      | some o =>
        simp only [ho] at h3
        obtain ⟨e, he, hb⟩ := Array.any_eq_true'.1 h3
        simp only [Bool.and_eq_true] at hb
        have hon : e.on = k := by simpa using hb.2
        subst hon
        rcases Nat.eq_or_lt_of_le (Nat.le_of_lt_succ hq) with h | h
        · subst h
          exact hm o ho e he hb.1
        · exact hc q o ho (ih q h (by omega)) e he hb.1
  exact fun k hk => key (m - k) k hk (Nat.le_refl _)
def wpAnyL (P : Program) (ops : Array Oper) (Q : Exit → Act → World → Prop) (S : World → Prop) (m : Nat) : Nat → Array Bool → Act → World → Prop
  | 0, listed, a, w => Region.ready .any ops listed = [] ∧ Q .normal a w
  | fuel + 1, listed, a, w => (Region.ready .any ops listed = [] → Q .normal a w) ∧ ∀ i ∈ Region.ready .any ops listed, wpOp P ops Q i (fun a' w' => (i < m → S w') ∧ wpAnyL P ops Q S m fuel (listed.setIfInBounds i true) a' w') a w
theorem wpAny_of_L {S : World → Prop} {m : Nat} : ∀ (fuel : Nat) (listed : Array Bool) (a : Act) (w : World), wpAnyL P ops Q S m fuel listed a w → wpAny P .any ops Q fuel listed a w
  | 0, _, _, _, h => h
  | fuel + 1, _, _, _, h => ⟨h.1, fun i hi => wpOp_mono (fun a' w' h' => wpAny_of_L fuel _ a' w' h'.2) (h.2 i hi)⟩
theorem wpAnyL_first {S : World → Prop} {m i : Nat} {oi : Oper} {v : Value} (hok : lateOk ops m = true) (him : i < m) (hi : ops[i]? = some oi) (hsel : ∀ (j : Nat) (o : Oper) cs b, ops[j]? = some o → o.op ≠ .select cs b) (hQ : ∀ c a w, Q (.panic c) (a.put oi.dst v) w → Q (.panic c) a w) :
    ∀ (fuel : Nat) (listed : Array Bool) (a : Act) (w : World), DrawnTo ops listed →
      (∀ j oj, ops[j]? = some oj → j ≠ i → listed.getD j true = false → (∀ e ∈ oj.after, Region.binds .any e = true → e.on ≠ i) → oi.apart ops oj = true) →
      i ∈ Region.ready .any ops listed → YieldsIf P ops S oi v a → S w → wpAnyL P ops Q S m fuel (listed.setIfInBounds i true) (a.put oi.dst v) w → wpAnyL P ops Q S m (fuel + 1) listed a w := by
  intro fuel
  induction fuel with
  | zero =>
    intro listed a w hc _ hr hy hS H
    refine ⟨fun h => (by rw [h] at hr; cases hr), fun j hj => ?_⟩
    by_cases hji : j = i
    · subst hji; exact hy.wpOp hi hS ⟨fun _ => hS, H⟩
    · have h := ready_mono hj hji
      rw [H.1] at h
      cases h
  | succ fuel ih =>
    intro listed a w hc hfree hr hy hS H
    refine ⟨fun h => (by rw [h] at hr; cases hr), fun j hj => ?_⟩
    by_cases hji : j = i
    · subst hji; exact hy.wpOp hi hS ⟨fun _ => hS, H⟩
    · have hiun := (mem_ready.1 hr).1
      have hil : listed.getD i false = false := by
        by_cases hsz : i < listed.size
        · simp [hsz] at hiun ⊢; exact hiun
        · simp [Array.getD_eq_getD_getElem?, Array.getElem?_eq_none (Nat.le_of_not_lt hsz)]
      have hjl : j < m := by
        rcases Nat.lt_or_ge j m with h | h
        · exact h
        · rw [late_all hok hc hj h i him] at hil
          cases hil
      have h1 := H.2 j (ready_mono hj hji)
      obtain ⟨hjun, oj, hoj, hall⟩ := mem_ready.1 hj
      have hnot : ∀ e ∈ oj.after, Region.binds .any e = true → e.on ≠ i := fun e he hb heq => by
        have h1 := hall e he hb
        rw [heq, hil] at h1
        cases h1
      have h2 := wpOp_putIf hoj (hfree j oj hoj hji hjun hnot) (fun cs b => hsel i oi cs b hi) (fun cs b => hsel j oj cs b hoj) hQ hy h1
      have hfree' : ∀ k ok, ops[k]? = some ok → k ≠ i → (listed.setIfInBounds j true).getD k true = false → (∀ e ∈ ok.after, Region.binds .any e = true → e.on ≠ i) → oi.apart ops ok = true := fun k ok hk hki hun hno => by
        refine hfree k ok hk hki ?_ hno
        by_cases hjk : j = k
        · subst hjk; exact hjun
        · rw [getD_set_ne true hjk] at hun; exact hun
      refine wpOp_mono (fun a' w' h3 => ⟨h3.2.1, ih (listed.setIfInBounds j true) a' w' (hc.step hj) hfree' (ready_mono hr (Ne.symm hji)) h3.1 (h3.2.1 hjl) ?_⟩) h2
      rw [Array.setIfInBounds_comm _ _ hji]
      exact h3.2.2
def AHL (P : Program) (ops : Array Oper) (Q : Exit → Act → World → Prop) (U0 : Snaps) (L0 : Boxes) (m fuel : Nat) (listed : Array Bool) (e0 : Cfg) (U : Snaps) (l : Slots) (L : Boxes) : Prop :=
  lateOk ops m = true → DrawnTo ops listed → AQ e0 U l L (fun a w => wpAnyL P ops Q (Sta e0 U0 L0) m fuel listed a w)
theorem ac_drawL {id : Nat} {os : List Oper} (m : Nat) (hm : P.follows .mixedOrders = true) (hok : lateOk os.toArray m = true) (k : AHL P os.toArray Q U L m os.toArray.size (Array.replicate os.toArray.size false) e0 U l L) : AC P e0 U l L (.region id os.toArray true) Q :=
  fun a w hf hs => wp_region_any hm (wpAny_of_L _ _ _ _ (k hok (DrawnTo.start _ _) a _ hf hs.drew))
/-- what may be done whenever it is ready -/
theorem ahl_take {U0 : Snaps} {L0 : Boxes} {m fuel : Nat} {listed : Array Bool} {o : Oper} {v : Value} (i : Nat) (him : Nat.blt i m = true) (hw0 : ∀ w, Sta e0 U L w → Sta e0 U0 L0 w) (hi : ops[i]? = some o) (hd : o.dst = some d) (hn : Nat.blt d e0.n = true)
    (hs : Region.noSelect ops = true) (hf : Region.free .any ops listed i = true) (hr : (Region.ready .any ops listed).contains i = true)
    (hQ : ∀ c a w, Q (.panic c) (a.put (some d) v) w → Q (.panic c) a w) (hw : want ops l o.guard = some true) (q : Q1 P e0 U0 l L0 o v)
    (k : AHL P ops Q U0 L0 m fuel (listed.setIfInBounds i true) e0 U ((d, v) :: l) L) : AHL P ops Q U0 L0 m (fuel + 1) listed e0 U l L := by
  intro hok hc a w hfr hst
  have h0 := hw0 w hst
  have hr' : i ∈ Region.ready .any ops listed := by simpa using hr
  refine wpAnyL_first hok (by simpa using him) hi (Region.noSelect_spec hs) (by rw [hd]; exact hQ) fuel listed a w hc (Region.free_spec hi hf) hr' (Or.inl ⟨want_ok hfr hw, fun w' hs' => q a w' hfr hs'⟩) h0 ?_
  rw [hd]
  exact k hok (hc.step hr') _ _ (hfr.put hn v) hst
def KHL (P : Program) (ops : Array Oper) (Q : Exit → Act → World → Prop) (e0 : Cfg) (U0 : Snaps) (L0 : Boxes) (m fuel i : Nat) (listed : Array Bool) : Act → World → Prop :=
  fun a w => (i < m → Sta e0 U0 L0 w) ∧ wpAnyL P ops Q (Sta e0 U0 L0) m fuel (listed.setIfInBounds i true) a w
/-- the one operation that may come up -/
theorem ahl_one {U0 : Snaps} {L0 : Boxes} {m fuel : Nat} {listed : Array Bool} {o : Oper} (i : Nat) (hi : ops[i]? = some o) (hr : Region.ready .any ops listed = [i])
    (k : lateOk ops m = true → DrawnTo ops (listed.setIfInBounds i true) → AL P ops (Exit.then (KHL P ops Q e0 U0 L0 m fuel i listed) Q) e0 U l L [o]) : AHL P ops Q U0 L0 m (fuel + 1) listed e0 U l L := by
  intro hok hc a w hfr hst
  refine ⟨fun h => (by rw [hr] at h; cases h), fun j hj => ?_⟩
  have hj' := hj
  rw [hr] at hj
  obtain rfl : j = i := by simpa using hj
  exact wpOp_of_list hi (k hok (hc.step hj') a w hfr hst)
/-- back into the region -/
theorem ahl_back {U0 : Snaps} {L0 : Boxes} {m fuel i : Nat} {listed : Array Bool} (hok : lateOk ops m = true) (hc : DrawnTo ops (listed.setIfInBounds i true)) (h0 : ∀ w, Sta e0 U L w → Sta e0 U0 L0 w) (k : AHL P ops Q U0 L0 m fuel (listed.setIfInBounds i true) e0 U l L) : AQ e0 U l L (Exit.then (KHL P ops Q e0 U0 L0 m fuel i listed) Q .normal) :=
  fun a w hfr hst => ⟨fun _ => h0 w hst, k hok hc a w hfr hst⟩
/-- from m on -/
theorem ahl_late {U0 : Snaps} {L0 : Boxes} {m fuel i : Nat} {listed : Array Bool} (hok : lateOk ops m = true) (hc : DrawnTo ops (listed.setIfInBounds i true)) (him : Nat.ble m i = true) (k : AHL P ops Q U0 L0 m fuel (listed.setIfInBounds i true) e0 U l L) : AQ e0 U l L (Exit.then (KHL P ops Q e0 U0 L0 m fuel i listed) Q .normal) :=
  fun a w hfr hst => ⟨fun h => absurd h (by have : m ≤ i := by simpa using him
                                            omega), k hok hc a w hfr hst⟩
theorem ahl_done {U0 : Snaps} {L0 : Boxes} {m fuel : Nat} {listed : Array Bool} (hr : Region.ready .any ops listed = []) (k : AQ e0 U l L (Q .normal)) : AHL P ops Q U0 L0 m fuel listed e0 U l L := by
  intro hok hc a w hfr hst
  cases fuel with
  | zero => exact ⟨hr, k a w hfr hst⟩
  | succ n => exact ⟨fun _ => k a w hfr hst, by rw [hr]; simp⟩
/-- an own box becomes a grown list behind the boxes -/
theorem ac_toTail {b n : Nat} {cs : List Value} {L1 G L L' : Boxes} {c : Code} (hT : Tl L1 G L) (hT' : Tl L1 (gt (some (b, n, [])) cs ++ G) L') (k : AC P e0 U l L' c Q) : AC P e0 U l ((b, .cells cs) :: L) c Q := fun a w hf hs => k a w hf (hs.perm (by
  rw [hT.eq, hT'.eq]
  simp only [gt, List.append_nil, List.singleton_append]
  exact List.perm_middle.symm))
variable {ty : TypeId} {pos : String} {af : Array Edge} {g : Option (Nat × Bool)} {dd : Option Nat}
/-- a list from number lo on, wherever it lies -/
theorem q_fromE {t e z len cap lo : Nat} {A : Option Addr} {ii : Int} {k : IntKind} {ox oi : Operand} (hx : E l ox = some (.slice A len cap)) (hi : E l oi = some (.int k ii)) (hii : ii = (lo : Int)) (hlo : lo ≤ len) (hu : P.underlying t = some (.slice e)) (hz : ∀ w, (sizeOf e).run P w = .ok z w) :
    Q1 P e0 U l L ⟨dd, .slice t ox (some oi) none none, ty, pos, af, g⟩ (.slice (if cap = lo then A else A.map (·.add (lo * z))) (len - lo) (cap - lo)) := by
  intro a w hf hs
  subst hii
  have hru : ∀ w, (underlying t).run P w = .ok (.slice e) w := fun w => run_underlying hu w
  simp only [execOp, hf.ev hx, Option.map_some, hf.ev hi, Option.map_none]
  simp [Instr.sliceAt, Instr.slice, hru, Instr.sliceBounds, Instr.sliceBound, asIntOf, hlo, hz]
theorem IsT.from {α : Type} {z : Nat} {enc : α → List Value} {w : World} {A : Option Addr} {len cap lo : Nat} {zs : List α} (h : IsT z enc w A len zs) (hlo : lo ≤ len) (hcap : len ≤ cap) : IsT z enc w (if cap = lo then A else A.map (·.add (lo * z))) (len - lo) (zs.drop lo) := by
  by_cases h0 : 0 < len - lo
  · obtain ⟨b, o, e, hb, hg⟩ := h.2 (by omega)
    subst e
    rw [if_neg (by omega)]
    have := h.drop lo
    simpa [addr_add] using this
  · exact ⟨by rw [List.length_drop, h.1], fun h1 => absurd h1 h0⟩
/-- append to a list that lies elsewhere and is full: the result is new -/
theorem al_appendF {t e z bytes m nn : Nat} {zv : Value} {A : Addr} {vs xs : List Value} {y : Value} {ox oy : Operand} (hx : E l ox = some (.slice (some A) nn nn)) (holds : ∀ w, Sta e0 U L w → ∀ j u, xs[j]? = some u → w.cell? (A.add j) = some u) (hxs : xs.length = nn * z)
    (hy : E l oy = some y) (hs : Sor e0 U L z y m vs) (h0 : 0 < m)
    (hu : P.underlying t = some (.slice e)) (hinfo : (P.info? e).map (fun i => (i.zero, i.size, i.bytes)) = some (some zv, z, bytes)) (hzv : zv.cells.size = z) (hm : nn + m ≤ 1000000) (hb : bytes ≤ 10000)
    (hn : Nat.blt d e0.n = true) (hw : want ops l g = some true)
    (k : ∀ b' cap' sp', nn + m ≤ cap' → cap' ≤ 9223372036854775807 → AL P ops Q e0 U ((d, .slice (some ⟨b', 0, none⟩) (nn + m) cap') :: l) ((b', .cells ((xs ++ vs) ++ sp')) :: L) rest) :
    AL P ops Q e0 U l L (⟨some d, .call ⟨.builtin .append, #[ox, oy], #[t, t]⟩, ty, pos, af, g⟩ :: rest) :=
  al_run2 (K := True) hw rfl hn (fun a w hf hst => by
    obtain ⟨hl, h1, yA, c, rfl, hc⟩ := hs
    obtain ⟨B, rfl, hB⟩ := hc w hst h0
    obtain ⟨i, hi, hz, rfl, rfl⟩ := info_split hinfo
    have hmb : (nn + m) * i.bytes ≤ 1000000 * 10000 := Nat.mul_le_mul hm hb
    have hr := run_append_grow (P := P) w t ty e i zv hu hi hz A nn nn xs hxs (holds w hst) B m c vs hl hB (by omega) (by omega) (growslice_fits (by omega) (by omega))
    have hcap := grownCap_ge w (nn + m) nn e
    have hA := hst.drew.alloc ((xs ++ vs) ++ (Builtin.zeroCells zv.cells (grownCap w (nn + m) nn e - (nn + m))).toList) e
    have e1 : ((xs ++ vs) ++ (Builtin.zeroCells zv.cells (grownCap w (nn + m) nn e - (nn + m))).toList).toArray = xs.toArray ++ vs.toArray ++ Builtin.zeroCells zv.cells (grownCap w (nn + m) nn e - (nn + m)) := Array.ext' (by simp)
    rw [e1] at hA
    exact ⟨_, _, U, _, ex_append (hf.ev hx) (hf.ev hy) hr, hA, k _ _ _ hcap (grownCap_le63 w (nn + m) nn e (by omega))⟩)
/-- the cells of a list, as its items lie -/
theorem IsT.flat {α : Type} {z : Nat} {enc : α → List Value} (hlen : ∀ x, (enc x).length = z) {w : World} {b o len : Nat} {zs : List α} (h : IsT z enc w (some ⟨b, o, none⟩) len zs) : ∀ j u, (zs.flatMap enc)[j]? = some u → w.cell? ((⟨b, o, none⟩ : Addr).add j) = some u := by
  rcases Nat.eq_zero_or_pos len with h0 | h0
  · subst h0
    have := List.length_eq_zero_iff.1 h.1
    subst this
    intro j u hu; simp at hu
  · obtain ⟨b', o', e, hb, hg⟩ := h.2 h0
    cases e
    intro j u hu
    rw [addr_add]
    have key : ∀ (ys : List α) (k j : Nat) (u : Value), (ys.flatMap enc)[j]? = some u → (∀ i x, ys[i]? = some x → zs[k + i]? = some x) → w.cell? ⟨b, o + (k * z + j), none⟩ = some u := by
      intro ys
      induction ys with
      | nil => intro k j u hu _; simp at hu
      | cons y r ih =>
        intro k j u hu hk
        rw [List.flatMap_cons] at hu
        rcases Nat.lt_or_ge j z with q | q
        · rw [List.getElem?_append_left (by rw [hlen]; exact q)] at hu
          have := hg k y (hk 0 y rfl) j u hu
          rw [← Nat.add_assoc]; exact this
        · rw [List.getElem?_append_right (by rw [hlen]; exact q), hlen] at hu
          have := ih (k + 1) (j - z) u hu (fun i x hx => by rw [Nat.add_assoc, Nat.add_comm 1 i]; exact hk (i + 1) x hx)
          rw [Nat.add_mul] at this
          rw [show k * z + j = k * z + 1 * z + (j - z) by omega]; exact this
    have := key zs 0 j u hu (fun i x hx => by simpa using hx)
    simpa using this
end

end Go.Proofs.YtkhahbnagbjbiaaGreat
end
