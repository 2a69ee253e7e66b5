import Derived.Test.YtogcjgjhmlifgaaGreatLAW
import Derived.Test.YtogcjgjhmlifgaaGreatLBF
import Derived.Test.YtogcjgjhmlifgaaGreatRows
import Derived.KernelRfl
import Derived.Laws.StructEq
namespace Go.Proofs.YtogcjgjhmlifgaaGreat
set_option linter.unusedVariables false
set_option linter.unusedSimpArgs false
section
open Go.RowKit
theorem fromL_drop {M : MachD} (hc : checkC M = 0) (p : PointD) : (fromL M (p.r, p.z)).drop (M.coils.length + M.shells.length) = lst (cellN M) (wgt M p) := by
  have hcn := cellN_eq hc
  refine List.ext_getElem? fun k => ?_
  rw [List.getElem?_drop]
  by_cases hk : k < cellN M
  · rw [lst_get _ hk, Nat.add_assoc, from_cell (M := M) (p := (p.r, p.z)) (k := k) (by omega)]; rfl
  · have hl := from_length M (p.r, p.z)
    rw [List.getElem?_eq_none (by unfold cellN at *; omega), List.getElem?_eq_none (by rw [lst_length]; omega)]
set_option maxRecDepth 100000 in
theorem rweights_any (R : MachR) (M : MachD) (p : PointD) (w : World) (hM : IsM w R M) (hc : checkC M = 0) : Calls Tryz.prog 103 #[(.agg (mCs R M).toArray), (.agg #[.int .i64 p.r, .int .i64 p.z])] w (fun e w' => ∃ A n c, e = .returned (.slice A n c) ∧ NewT 1 intCells w.heap.size w' A n c (lst (cellN M) (wgt M p)) ∧ Below w.heap.size w w') := by
  have n1 := hM.coils.1.symm
  have n2 := hM.shells.1.symm
  have hsd := sound_of hc
  have q1 := hsd.coils.1
  have q2 := hsd.shells.1
  have hl := from_length M (p.r, p.z)
  have hcn := cellN_eq hc
  refine calls_ax (vs := [(.agg (mCs R M).toArray), (.agg #[.int .i64 p.r, .int .i64 p.z])]) Tryz.func103 rfl rfl ?_
  refine ac_seq (ac_region ?_)
  refine al_new (fun b => .pointer (some ⟨b, 0, none⟩)) (r_box rfl rfl) rfl rfl rfl ?_
  intro b1
  refine al_new (fun b => .pointer (some ⟨b, 0, none⟩)) (r_box rfl rfl) rfl rfl rfl ?_
  intro b2
  refine al_p (q_assign rfl) (al_end (aq_then ?_))
  refine ac_seq (ac_draw 11 (by kernel_rfl) (by kernel_rfl) ?_)
  refine ah_t 0 (fun w9 hs => hs) rfl rfl (by kernel_rfl) (q_loadAll (i := 1) rfl rfl Tryz.isAgg29 Tryz.sizeOf29 rfl) (ah_t 1 (fun w9 hs => hs) rfl rfl (by kernel_rfl) (q_loadAll (i := 0) rfl rfl Tryz.isAgg36 Tryz.sizeOf36 rfl) ?_)
  refine ah_t 3 (fun w9 hs => hs) rfl rfl (by kernel_rfl) (q_fieldAddr 1 rfl Tryz.runUnderlying29 rfl Tryz.sizeOf22 (by decide) rfl) (ah_t 4 (fun w9 hs => hs) rfl rfl (by kernel_rfl) (q_load (i := 1) rfl rfl rfl Tryz.isAgg22) (ah_t 5 (fun w9 hs => hs) rfl rfl (by kernel_rfl) (q_lenS rfl Tryz.runUnderlying22) ?_))
  refine ah_t 6 (fun w9 hs => hs) rfl rfl (by kernel_rfl) (q_fieldAddr 2 rfl Tryz.runUnderlying29 rfl Tryz.sizeOf23 (by decide) rfl) (ah_t 7 (fun w9 hs => hs) rfl rfl (by kernel_rfl) (q_load (i := 1) rfl rfl rfl Tryz.isAgg23) (ah_t 8 (fun w9 hs => hs) rfl rfl (by kernel_rfl) (q_lenS rfl Tryz.runUnderlying23) ?_))
  refine ah_t 9 (fun w9 hs => hs) rfl rfl (by kernel_rfl) (q_add rfl rfl (by omega)) (ah_one 2 rfl (by kernel_rfl) (fun hok1 hcl1 => ?_))
  refine al_call Tryz.call92 (.cons rfl (.cons rfl .nil)) rfl rfl (fun w1 hs1 => ?_)
  refine (rfrom9p R M p _ (hM.below hs1.below) hc).mono ?_
  rintro e u1 ⟨A7, c7, rfl, N7, hb_1⟩
  obtain ⟨b71, o71, hA7, hlt7, hget7⟩ := N7.isT.2 (by omega)
  have hle7 := N7.le.1
  refine ⟨_, rfl, hb_1, ?_⟩
  clear hs1
  refine al_end (ah_back hok1 hcl1 (fun w9 hs => (hs.fewer 1 rfl)) ?_)
  refine ah_t 10 (fun w9 hs => (hs.fewer 1 rfl)) rfl rfl (by kernel_rfl) (q_fromA (lo := R.la + R.lb) hA7 rfl rfl (by omega) (by omega) (by omega) (by omega) Tryz.underlying30 Tryz.sizeOf3) (ah_one 11 rfl (by kernel_rfl) (fun hok2 hcl2 => ?_))
  refine al_p (q_assign rfl) (al_end (ah_last (by kernel_rfl) ?_))
  refine aq_then (ac_ret (ret1 Tryz.results103 rfl (fun w9 hs => ?_)))
  have h9 := hs.newT2 (.head _) N7
  have h8 := h9.isT
  rw [hA7] at h8
  have h10 := h8.drop (R.la + R.lb)
  rw [n1, n2, fromL_drop hc, ← n1, ← n2] at h10
  exact ⟨_, _, _, rfl, ⟨h10, fun b o e => by cases e; exact h9.new _ _ hA7, by have := N7.le; omega⟩, hs.below⟩
theorem eqq_bl_apiSpan_0_ (a0 : Value) (ha0 : a0.oneCell' = true) : ∀ w, (Instr.build 52 #[(0, a0)]).run Tryz.prog w = .ok (.agg #[a0, (.int .i64 0)]) w := by
  have ea0 : a0.cells = #[a0] := cells_one ha0
  intro w; simp [Instr.build, Instr.fill, cells_agg, Tryz.runUnderlying52, Tryz.zeroValue52, Tryz.sizeOf3, ea0]
set_option maxRecDepth 100000 in
theorem rflux_any (R : MachR) (M : MachD) (Q : CurR) (C : CurD)   (X : Option Addr) (nx cx : Nat) (xs : List SpanD) (p : PointD) (t : Int) (w : World) (hM : IsM w R M) (hC : IsC w Q C) (hS : IsT 2 SpanD.cells w X nx xs) (hf : Fit2 M C) (hX : FitX M t xs) (ht : t ≤ 1000000) : Calls Tryz.prog 65 #[(.agg (mCs R M).toArray), (.agg (cCs Q).toArray), (.slice X nx cx), (.agg #[.int .i64 p.r, .int .i64 p.z])] w (Ret (.agg #[.int .i64 (flS M C xs p).lo, .int .i64 (flS M C xs p).hi]) w) := by
  have hcn := cellN_eq hf.check
  have n1 := hS.1
  have n2 := hX.len
  refine calls_ax (vs := [(.agg (mCs R M).toArray), (.agg (cCs Q).toArray), (.slice X nx cx), (.agg #[.int .i64 p.r, .int .i64 p.z])]) Tryz.func65 rfl rfl ?_
  refine ac_seq (ac_region ?_)
  refine al_new (fun b => .pointer (some ⟨b, 0, none⟩)) (r_box rfl rfl) rfl rfl rfl ?_
  intro b1
  refine al_new (fun b => .pointer (some ⟨b, 0, none⟩)) (r_box rfl rfl) rfl rfl rfl ?_
  intro b2
  refine al_new (fun b => .pointer (some ⟨b, 0, none⟩)) (r_box rfl rfl) rfl rfl rfl ?_
  intro b3
  refine al_new (fun b => .pointer (some ⟨b, 0, none⟩)) (r_alloc Tryz.zeroValue52 rfl) rfl rfl rfl ?_
  intro b4
  refine al_end (aq_then ?_)
  refine ac_seq (ac_region ?_)
  refine al_p (q_loadAll (i := 3) rfl rfl Tryz.isAgg29 Tryz.sizeOf29 rfl) (al_p (q_loadAll (i := 2) rfl rfl Tryz.isAgg32 Tryz.sizeOf32 rfl) (al_p (q_loadAll (i := 1) rfl rfl Tryz.isAgg36 Tryz.sizeOf36 rfl) (al_call Tryz.call45 (.cons rfl (.cons rfl (.cons rfl .nil))) rfl rfl (fun w1 hs1 => ?_))))
  refine (rknown_any R M Q C _ (hM.below hs1.below) (hC.below hs1.below) p hf).mono ?_
  rintro e u1 ⟨rfl, hb_1⟩
  refine ⟨_, rfl, hb_1, ?_⟩
  clear hs1
  refine al_p (q_build (.cons rfl .nil) (eqq_bl_apiSpan_0_ _ rfl)) (al_new (fun b => .pointer (some ⟨b, 0, none⟩)) (r_alloc Tryz.zeroValue52 rfl) rfl rfl rfl ?_)
  intro b5
  refine al_storeAll (i := 0) rfl rfl rfl rfl Tryz.sizeOf52 rfl rfl .k0 rfl (al_end (aq_then ?_))
  refine ac_seq (ac_region ?_)
  refine al_p (q_fieldAddr 0 rfl Tryz.runUnderlying52 rfl Tryz.sizeOf3 (by decide) rfl) (al_p (q_load (i := 0) rfl rfl rfl Tryz.isAgg3) ?_)
  refine al_p (q_fieldAddr 1 rfl Tryz.runUnderlying52 rfl Tryz.sizeOf3 (by decide) rfl) (al_store1 (i := 0) rfl rfl rfl rfl Tryz.sizeOf3 .k1 .k0 rfl (al_end (aq_then ?_)))
  refine ac_seq (ac_region ?_)
  refine al_p (q_loadAll (i := 4) rfl rfl Tryz.isAgg29 Tryz.sizeOf29 rfl) (al_p (q_loadAll (i := 2) rfl rfl Tryz.isAgg36 Tryz.sizeOf36 rfl) (al_call Tryz.call103 (.cons rfl (.cons rfl .nil)) rfl rfl (fun w2 hs2 => ?_)))
  refine (rweights_any R M p _ (hM.below hs2.below) hf.check).mono ?_
  rintro e u2 ⟨A7, n7, c7, rfl, N7, hb_2⟩
  have n7e := N7.isT.1
  rw [lst_length] at n7e
  refine ⟨_, rfl, hb_2, ?_⟩
  clear hs2
  refine al_p (q_assign rfl) (al_end (aq_then ?_))
  refine ac_seq (ac_seq (ac_region ?_))
  refine al_p (q_assign rfl) (al_end (aq_then ?_))
  refine ac_block ?_
  refine ac_loop (β := Nat) (fun k => k ≤ nx) (fun k => [(2, (.slice X nx cx)), (8, (.pointer (some ⟨b4, 0, none⟩))), (9, (.pointer (some ⟨b5, 0, none⟩))), (10, (.slice A7 n7 c7)), (11, (.int .i64 (k : Int)))]) (fun _ => _) (fun k => [(b5, .cells [.int .i64 (loT M C p xs k), .int .i64 (hiT M C p xs k)]), (b4, _), (b3, _), (b2, _), (b1, _)]) (fun k => nx - k) 0 (by omega) ⟨rfl, rfl, rfl, rfl, rfl, trivial⟩ (fun w9 hs => (by rw [show loT M C p xs 0 = knP M C p by simp [loT, dotTo], show hiT M C p xs 0 = knP M C p by simp [hiT, dotTo]]; exact hs)) (fun k hF1 => ?_)
  refine ac_seq (ac_seq (ac_region ?_))
  refine al_p (q_move rfl) (al_p (q_move rfl) (al_p (q_lenS rfl Tryz.runUnderlying45) (al_p (q_lss rfl rfl) (al_end (aq_then ?_)))))
  refine ac_cond rfl (fun h1 => ?_) (fun h1 => ?_)
  · have hkn : k < nx := by have := of_decide_eq_true h1; omega
    obtain ⟨b11, o11, hA1, hlt1, hget1⟩ := hS.2 (by omega)
    have hx1 := spA_get (x := xs) (k := k) (by omega)
    obtain ⟨b71, o71, hA7, hlt7, hget7⟩ := N7.isT.2 (by omega)
    have hx7 := lst_get (wgt M p) (n := cellN M) (k := k) (by omega)
    have g1 := wl_bd hX ht p (k := k) (by omega)
    have g2 := part_bd hf hX ht p (n := k) (by omega)
    have g3 := part_bd hf hX ht p (n := k + 1) (by omega)
    rw [loT_succ, hiT_succ] at g3
    refine ac_skip (aq_then (ac_seq (ac_block (ac_seq ?_))))
    refine ac_draw 14 (by kernel_rfl) (by kernel_rfl) ?_
    refine ah_t 0 (fun w9 hs => hs) rfl rfl (by kernel_rfl) (q_fieldAddr 0 rfl Tryz.runUnderlying52 rfl Tryz.sizeOf3 (by decide) rfl) (ah_t 1 (fun w9 hs => hs) rfl rfl (by kernel_rfl) (q_load (i := 0) rfl rfl rfl Tryz.isAgg3) (ah_t 2 (fun w9 hs => hs) rfl rfl (by kernel_rfl) (q_move rfl) (ah_t 3 (fun w9 hs => hs) rfl rfl (by kernel_rfl) (q_move rfl) ?_)))
    refine ah_t 4 (fun w9 hs => hs) rfl rfl (by kernel_rfl) (q_indexAddrA (i := k) (o71 + k * 1 + 0) hA7 rfl rfl rfl (by omega) Tryz.runUnderlying30 Tryz.sizeOf3 rfl) (ah_t 5 (fun w9 hs => hs) rfl rfl (by kernel_rfl) (q_loadX rfl Tryz.isAgg3 (fun w9 hs => (cell_blkx ((hs.snap _ _ (.head _)).2.2.2.1 b71 (N7.new _ _ hA7) hlt7)).trans ((hget7 k _ hx7) 0 _ rfl))) (ah_t 6 (fun w9 hs => hs) rfl rfl (by kernel_rfl) (q_move rfl) (ah_t 7 (fun w9 hs => hs) rfl rfl (by kernel_rfl) (q_move rfl) ?_)))
    refine ah_t 8 (fun w9 hs => hs) rfl rfl (by kernel_rfl) (q_indexAddrA (i := k) (o11 + k * 2 + 0) hA1 rfl rfl rfl (by omega) Tryz.runUnderlying45 Tryz.sizeOf52 rfl) ?_
    refine ah_t 9 (fun w9 hs => hs) rfl rfl (by kernel_rfl) (q_fieldAddr (o11 + k * 2 + 0) rfl Tryz.runUnderlying52 rfl Tryz.sizeOf3 (by decide) rfl) (ah_t 10 (fun w9 hs => hs) rfl rfl (by kernel_rfl) (q_loadX rfl Tryz.isAgg3 (fun w9 hs => (hs.below.cell (p := ⟨_, _, none⟩) hlt1).trans ((hget1 k _ hx1) 0 _ rfl))) ?_)
    refine ah_t 11 (fun w9 hs => hs) rfl rfl (by kernel_rfl) (q_mul rfl rfl (by omega)) ?_
    refine ah_t 12 (fun w9 hs => hs) rfl rfl (by kernel_rfl) (q_add rfl rfl (by omega)) ?_
    refine ah_t 13 (fun w9 hs => hs) rfl rfl (by kernel_rfl) (q_fieldAddr 0 rfl Tryz.runUnderlying52 rfl Tryz.sizeOf3 (by decide) rfl) (ah_one 14 rfl (by kernel_rfl) (fun hok1 hcl1 => ?_))
    refine al_store1 (i := 0) rfl rfl rfl rfl Tryz.sizeOf3 .k0 .k0 rfl (al_end (ah_last (by kernel_rfl) ?_))
    refine aq_then (ac_draw 14 (by kernel_rfl) (by kernel_rfl) ?_)
    refine ah_t 0 (fun w9 hs => hs) rfl rfl (by kernel_rfl) (q_fieldAddr 1 rfl Tryz.runUnderlying52 rfl Tryz.sizeOf3 (by decide) rfl) (ah_t 1 (fun w9 hs => hs) rfl rfl (by kernel_rfl) (q_load (i := 0) rfl rfl rfl Tryz.isAgg3) (ah_t 2 (fun w9 hs => hs) rfl rfl (by kernel_rfl) (q_move rfl) (ah_t 3 (fun w9 hs => hs) rfl rfl (by kernel_rfl) (q_move rfl) ?_)))
    refine ah_t 4 (fun w9 hs => hs) rfl rfl (by kernel_rfl) (q_indexAddrA (i := k) (o71 + k * 1 + 0) hA7 rfl rfl rfl (by omega) Tryz.runUnderlying30 Tryz.sizeOf3 rfl) (ah_t 5 (fun w9 hs => hs) rfl rfl (by kernel_rfl) (q_loadX rfl Tryz.isAgg3 (fun w9 hs => (cell_blkx ((hs.snap _ _ (.head _)).2.2.2.1 b71 (N7.new _ _ hA7) hlt7)).trans ((hget7 k _ hx7) 0 _ rfl))) (ah_t 6 (fun w9 hs => hs) rfl rfl (by kernel_rfl) (q_move rfl) (ah_t 7 (fun w9 hs => hs) rfl rfl (by kernel_rfl) (q_move rfl) ?_)))
    refine ah_t 8 (fun w9 hs => hs) rfl rfl (by kernel_rfl) (q_indexAddrA (i := k) (o11 + k * 2 + 0) hA1 rfl rfl rfl (by omega) Tryz.runUnderlying45 Tryz.sizeOf52 rfl) ?_
    refine ah_t 9 (fun w9 hs => hs) rfl rfl (by kernel_rfl) (q_fieldAddr (o11 + k * 2 + 1) rfl Tryz.runUnderlying52 rfl Tryz.sizeOf3 (by decide) rfl) (ah_t 10 (fun w9 hs => hs) rfl rfl (by kernel_rfl) (q_loadX rfl Tryz.isAgg3 (fun w9 hs => (hs.below.cell (p := ⟨_, _, none⟩) hlt1).trans ((hget1 k _ hx1) 1 _ rfl))) ?_)
    refine ah_t 11 (fun w9 hs => hs) rfl rfl (by kernel_rfl) (q_mul rfl rfl (by omega)) ?_
    refine ah_t 12 (fun w9 hs => hs) rfl rfl (by kernel_rfl) (q_add rfl rfl (by omega)) ?_
    refine ah_t 13 (fun w9 hs => hs) rfl rfl (by kernel_rfl) (q_fieldAddr 1 rfl Tryz.runUnderlying52 rfl Tryz.sizeOf3 (by decide) rfl) (ah_one 14 rfl (by kernel_rfl) (fun hok2 hcl2 => ?_))
    refine al_store1 (i := 0) rfl rfl rfl rfl Tryz.sizeOf3 .k1 .k0 rfl (al_end (ah_last (by kernel_rfl) ?_))
    refine aq_inN (aq_then (ac_region (al_p (q_move rfl) ?_)))
    refine al_p (q_add rfl rfl (by omega)) (al_p (q_assign rfl) (al_end (aq_then ?_)))
    skip
    refine aq_round (k + 1) (by omega) (by omega) ⟨rfl, rfl, rfl, rfl, rfl, trivial⟩ (fun w9 hs => (by have h9 := hs; rw [← loT_succ, ← hiT_succ] at h9; exact h9))
  · have hke : k = cellN M := by have := of_decide_eq_false h1; omega
    refine ac_exit (aq_thenE (aq_thenE (aq_hit (aq_then ?_))))
    refine ac_seq (ac_region ?_)
    refine al_p (q_loadAll (i := 0) rfl rfl Tryz.isAgg52 Tryz.sizeOf52 rfl) (al_storeAll (i := 1) rfl rfl rfl rfl Tryz.sizeOf52 rfl rfl .k1 rfl (al_end (aq_then ?_)))
    refine ac_ret (retR Tryz.results65 (.agg (i := 1) rfl rfl Tryz.isAgg52 Tryz.sizeOf52 rfl .nil) .one (fun w9 hs => ?_))
    exact ⟨by rw [hke]; rfl, hs.below⟩
theorem rcellK (R : MachR) (M : MachD) (k : Nat) (w : World) (hM : IsM w R M) (hc : checkC M = 0) (hk : k < cellN M) : Calls Tryz.prog 102 #[.agg (mCs R M).toArray, .int .i64 (k : Int)] w (Ret (.tuple #[.agg #[.int .i64 (cellP M k).r, .int .i64 (cellP M k).z], .int .i64 0]) w) := by
  have h : Calls Tryz.prog 102 #[.agg (mCs R M).toArray, .int .i64 (k : Int)] w (Ret (.tuple #[.agg #[.int .i64 (cellL M k).1, .int .i64 (cellL M k).2.1], .int .i64 (cellL M k).2.2]) w) := rcell9_any R M k w hM
  have hcn := cellN_eq hc
  have e : cellL M k = (cellR M.grid (k : Int), cellZ M.grid (k : Int), 0) := by unfold cellL; rw [if_pos hc, if_pos (wthn_iff.2 (by omega))]
  rw [e] at h
  exact h
def clC (M : MachD) (k : Nat) : List Value := (lst k (cellP M)).flatMap PointD.cells
theorem clC_succ (M : MachD) (k : Nat) : clC M (k + 1) = clC M k ++ PointD.cells (cellP M k) := by unfold clC; rw [lst_snoc, List.flatMap_append]; simp
def bdI (M : MachD) (C : CurD) (xs : List SpanD) (k : Nat) : SpanD := ⟨topTo (fun j => (flS M C xs (limP M j)).lo) k, topTo (fun j => (flS M C xs (limP M j)).hi) k⟩
theorem bdI_all (M : MachD) (C : CurD) (xs : List SpanD) : bdI M C xs (M.limits.length - 1) = bdS M C xs := rfl
theorem bdI_lo (M : MachD) (C : CurD) (xs : List SpanD) (k : Nat) : (bdI M C xs (k + 1)).lo = max (bdI M C xs k).lo (flS M C xs (limP M (k + 1))).lo := rfl
theorem bdI_hi (M : MachD) (C : CurD) (xs : List SpanD) (k : Nat) : (bdI M C xs (k + 1)).hi = max (bdI M C xs k).hi (flS M C xs (limP M (k + 1))).hi := rfl
def bnV (M : MachD) (C : CurD) (xs : List SpanD) : Bool := validC M C && boxB M 1000000 xs
def bnE (M : MachD) (C : CurD) (xs : List SpanD) : Int := if bnV M C xs = true then 0 else 1
def bnS (M : MachD) (C : CurD) (xs : List SpanD) : SpanD := if bnV M C xs = true then bdS M C xs else ⟨0, 0⟩
theorem eqq_bs_apiPoint_1_0_ (c0_0 c0_1 : Value) : ∀ w, (Instr.buildSlice 24 1 #[(0, .agg #[c0_0, c0_1])]).run Tryz.prog w = .ok (.slice (some ⟨w.heap.size, 0, none⟩) 1 1) (w.alloc (.cells [c0_0, c0_1].toArray 36)) := by
  intro w; (simp [Instr.buildSlice, Instr.fill, cells_agg, newRow, Tryz.runUnderlying24, Tryz.zeroValue36, Tryz.sizeOf36] <;> (rw [(by kernel_rfl : Array.range 2 = #[0, 1])]; simp [Value.cells]))
set_option maxRecDepth 100000 in
theorem rcells5_any (R : MachR) (M : MachD) (w : World) (hM : IsM w R M) (hc : checkC M = 0) : Calls Tryz.prog 64 #[(.agg (mCs R M).toArray)] w (fun e w' => ∃ A c, e = .returned (.slice A (cellN M) c) ∧ NewT 2 PointD.cells w.heap.size w' A (cellN M) c (lst (cellN M) (cellP M)) ∧ Below w.heap.size w w') := by
  have hcn := cellN_eq hc
  refine calls_ax (vs := [(.agg (mCs R M).toArray)]) Tryz.func64 rfl rfl ?_
  refine ac_seq (ac_region ?_)
  refine al_new (fun b => .pointer (some ⟨b, 0, none⟩)) (r_box rfl rfl) rfl rfl rfl ?_
  intro b1
  refine al_p (q_assign rfl) (al_end (aq_then ?_))
  refine ac_seq (ac_region ?_)
  refine al_p (q_assign rfl) (al_end (aq_then ?_))
  refine ac_seq (ac_seq (ac_region ?_))
  refine al_p (q_assign rfl) (al_end (aq_then ?_))
  refine ac_block ?_
  refine ac_loop (β := Nat × Gr) (fun p => p.1 ≤ cellN M ∧ gok p.2 p.1 2 (clC M p.1)) (fun p => [(1, (.pointer (some ⟨b1, 0, none⟩))), (2, (.slice none 0 0)), (3, (.slice (gA p.2) p.1 (gC p.2))), (4, (.int .i64 (p.1 : Int)))]) (fun _ => _) (fun p => (b1, _) :: (gt p.2 (clC M p.1) ++ ([]))) (fun p => cellN M - p.1) (0, none) ⟨Nat.zero_le _, gok.none 2⟩ ⟨rfl, rfl, rfl, rfl, trivial⟩ (fun w9 hs => (by rw [show gt none (clC M 0) = [] from rfl, List.nil_append]; exact hs)) (fun p hF1 => ?_)
  obtain ⟨hpx, hgp⟩ := hF1
  refine ac_seq (ac_seq (ac_region ?_))
  refine al_p (q_move rfl) ?_
  refine al_p (q_fieldAddr 4 rfl Tryz.runUnderlying29 rfl Tryz.sizeOf26 (by decide) rfl) ?_
  refine al_p (q_fieldAddr 6 rfl Tryz.runUnderlying26 rfl Tryz.sizeOf3 (by decide) rfl) (al_p (q_load (i := 0) rfl rfl rfl Tryz.isAgg3) ?_)
  refine al_p (q_fieldAddr 4 rfl Tryz.runUnderlying29 rfl Tryz.sizeOf26 (by decide) rfl) ?_
  refine al_p (q_fieldAddr 7 rfl Tryz.runUnderlying26 rfl Tryz.sizeOf3 (by decide) rfl) (al_p (q_load (i := 0) rfl rfl rfl Tryz.isAgg3) ?_)
  refine al_p (q_mul rfl rfl (by omega)) (al_p (q_lss rfl rfl) (al_end (aq_then ?_)))
  refine ac_cond rfl (fun h1 => ?_) (fun h1 => ?_)
  · have hkn : p.1 < cellN M := by have := of_decide_eq_true h1; omega
    refine ac_skip (aq_then (ac_seq (ac_block (ac_seq (ac_region ?_)))))
    refine al_p (q_loadAll (i := 0) rfl rfl Tryz.isAgg29 Tryz.sizeOf29 rfl) (al_p (q_move rfl) (al_call Tryz.call102 (.cons rfl (.cons rfl .nil)) rfl rfl (fun w1 hs1 => ?_)))
    refine (rcellK R M p.1 _ (hM.below hs1.below) hc (by omega)).mono ?_
    rintro e u1 ⟨rfl, hb_1⟩
    refine ⟨_, rfl, hb_1, ?_⟩
    clear hs1
    refine al_p (q_move rfl) (al_p (q_extract rfl rfl) (al_p (q_extract rfl rfl) (al_new (fun b => .pointer (some ⟨b, 0, none⟩)) (r_alloc Tryz.zeroValue36 rfl) rfl rfl rfl ?_)))
    intro b2
    refine al_storeAll (i := 0) rfl rfl rfl rfl Tryz.sizeOf36 rfl rfl .k0 rfl (al_p (q_assign rfl) (al_end (aq_then ?_)))
    refine ac_region (al_p (q_move rfl) (al_p (q_loadAll (i := 0) rfl rfl Tryz.isAgg36 Tryz.sizeOf36 rfl) (al_new (fun b => .slice (some ⟨b, 0, none⟩) 1 1) (r_buildSlice (.cons rfl .nil) (eqq_bs_apiPoint_1_0_ _ _)) rfl rfl rfl ?_)))
    intro b3
    refine al_grow (z := 2) (bytes := 16) (zv := (.agg #[.int .i64 0, .int .i64 0])) (o := p.2) (cs := (clC M p.1)) (vs := [.int .i64 (cellP M p.1).r, .int .i64 (cellP M p.1).z]) rfl rfl (.s (.s (.s (.z)))) hgp (Sor.box (j := 0) rfl rfl rfl) Tryz.underlying24 (by kernel_rfl) rfl (by omega) (by decide) rfl rfl (fun o_1 g_1 => ?_)
    refine ⟨_, (.s (.s (.s (.z)))), ?_⟩
    refine al_p (q_assign rfl) (al_end (aq_inN (aq_then (ac_region ?_))))
    refine al_p (q_move rfl) ?_
    refine al_p (q_add rfl rfl (by omega)) (al_p (q_assign rfl) (al_end (aq_then ?_)))
    skip
    refine aq_round ((p.1 + 1, o_1)) (by simp only; omega) ⟨by simp only; omega, by simp only; rw [clC_succ]; exact g_1⟩ ⟨rfl, rfl, rfl, rfl, trivial⟩ (fun w9 hs => (by dsimp only; rw [clC_succ]; exact ((hs.fewer 1 rfl).tail 2 rfl)))
  · have hke : p.1 = cellN M := by have := of_decide_eq_false h1; omega
    refine ac_exit (aq_thenE (aq_thenE (aq_hit (aq_then ?_))))
    refine ac_seq (ac_region ?_)
    refine al_p (q_move rfl) (al_p (q_assign rfl) (al_end (aq_then ?_)))
    refine ac_ret (ret1 Tryz.results64 rfl (fun w9 hs => ?_))
    exact ⟨gA p.2, gC p.2, by rw [hke], by have h9 := hs.grown (enc := PointD.cells) (o := p.2) (cs := clC M p.1) (zs := lst p.1 (cellP M)) (fun _ => rfl) (fun y hy => by simp [hy]) hgp rfl (lst_length _ _); rw [hke] at h9; exact h9, hs.below⟩
theorem eqq_bl_apiSpan_0_1 (a0 a1 : Value) (ha0 : a0.oneCell' = true) (ha1 : a1.oneCell' = true) : ∀ w, (Instr.build 52 #[(0, a0), (1, a1)]).run Tryz.prog w = .ok (.agg #[a0, a1]) w := by
  have ea0 : a0.cells = #[a0] := cells_one ha0
  have ea1 : a1.cells = #[a1] := cells_one ha1
  intro w; simp [Instr.build, Instr.fill, cells_agg, Tryz.runUnderlying52, Tryz.zeroValue52, Tryz.sizeOf3, ea0, ea1]
set_option maxHeartbeats 1000000 in
set_option maxRecDepth 100000 in
theorem rbnd_any (R : MachR) (M : MachD) (Q : CurR) (C : CurD)   (X : Option Addr) (nx cx : Nat) (xs : List SpanD) (t : Int) (w : World) (hM : IsM w R M) (hC : IsC w Q C) (hS : IsT 2 SpanD.cells w X nx xs) (hf : Fit2 M C) (hX : FitX M t xs) (ht : t ≤ 1000000) : Calls Tryz.prog 101 #[(.agg (mCs R M).toArray), (.agg (cCs Q).toArray), (.slice X nx cx)] w (Ret (.agg #[.int .i64 (bdS M C xs).lo, .int .i64 (bdS M C xs).hi]) w) := by
  have hcn := cellN_eq hf.check
  have n1 := hS.1
  have n2 := hX.len
  have n3 := hM.limits.1
  have hlp := limits_pos hf.check
  have hlm := limits_most hf.check
  obtain ⟨b31, o31, hA3, hlt3, hget3⟩ := hM.limits.2 (by omega)
  have hx3 := limP_get (M := M) (k := 0) (by omega)
  refine calls_ax (vs := [(.agg (mCs R M).toArray), (.agg (cCs Q).toArray), (.slice X nx cx)]) Tryz.func101 rfl rfl ?_
  refine ac_seq (ac_region ?_)
  refine al_new (fun b => .pointer (some ⟨b, 0, none⟩)) (r_box rfl rfl) rfl rfl rfl ?_
  intro b1
  refine al_new (fun b => .pointer (some ⟨b, 0, none⟩)) (r_box rfl rfl) rfl rfl rfl ?_
  intro b2
  refine al_new (fun b => .pointer (some ⟨b, 0, none⟩)) (r_alloc Tryz.zeroValue52 rfl) rfl rfl rfl ?_
  intro b3
  refine al_end (aq_then ?_)
  refine ac_seq (ac_draw 9 (by kernel_rfl) (by kernel_rfl) ?_)
  refine ah_share (fuel' := 1) (listed' := #[true, true, true, true, true, true, true, true, true, false]) (fun K => ∀ (b3001 : Nat), K [(2, (.slice X nx cx)), (3, (.pointer (some ⟨b1, 0, none⟩))), (4, (.pointer (some ⟨b2, 0, none⟩))), (6, (.pointer (some ⟨b3, 0, none⟩))), (7, (.pointer (some ⟨b3001, 0, none⟩))), (17, (.agg #[.int .i64 (flS M C xs (limP M 0)).lo, .int .i64 (flS M C xs (limP M 0)).hi]))] [(b3001, .cells [(.int .i64 0), (.int .i64 0)]), (b3, .cells [(.int .i64 0), (.int .i64 0)]), (b2, .cells ((cCs Q))), (b1, .cells ((mCs R M)))]) ?_ (fun hS1_0 => ?_)
  · intro b3001
    refine ah_one 9 rfl (by kernel_rfl) (fun hok1 hcl1 => ?_)
    refine al_storeAll (i := 0) rfl rfl rfl rfl Tryz.sizeOf52 rfl rfl .k0 rfl (al_end (ah_last (by kernel_rfl) ?_))
    refine aq_then (ac_seq (ac_seq (ac_region ?_)))
    refine al_p (q_assign rfl) (al_end (aq_then ?_))
    refine ac_block ?_
    refine ac_loop (β := Nat) (fun k => k + 1 ≤ R.lc) (fun k => [(2, (.slice X nx cx)), (3, (.pointer (some ⟨b1, 0, none⟩))), (4, (.pointer (some ⟨b2, 0, none⟩))), (6, (.pointer (some ⟨b3, 0, none⟩))), (7, (.pointer (some ⟨b3001, 0, none⟩))), (8, (.int .i64 ((k : Int) + 1)))]) (fun _ => _) (fun k => [(b3001, .cells [.int .i64 (bdI M C xs k).lo, .int .i64 (bdI M C xs k).hi]), (b3, _), (b2, _), (b1, _)]) (fun k => R.lc - k) 0 (by omega) ⟨rfl, rfl, rfl, rfl, rfl, (by simp; rfl), trivial⟩ (fun w9 hs => hs) (fun k hF1 => ?_)
    refine ac_seq (ac_seq (ac_region ?_))
    refine al_p (q_move rfl) ?_
    refine al_p (q_fieldAddr 3 rfl Tryz.runUnderlying29 rfl Tryz.sizeOf24 (by decide) rfl) (al_p (q_load (i := 3) rfl rfl rfl Tryz.isAgg24) (al_p (q_lenS rfl Tryz.runUnderlying24) (al_p (q_lss rfl rfl) (al_end (aq_then ?_)))))
    refine ac_cond rfl (fun h1 => ?_) (fun h1 => ?_)
    · have hkn : k + 1 < R.lc := by have := of_decide_eq_true h1; omega
      have hx3 := limP_get (M := M) (k := k + 1) (by omega)
      refine ac_skip (aq_then (ac_seq (ac_block (ac_seq ?_))))
      refine ac_draw 10 (by kernel_rfl) (by kernel_rfl) ?_
      refine ah_share (fuel' := 1) (listed' := #[true, true, true, true, true, true, true, true, true, true, false]) (fun K => ∀ (b7001 : Nat), K [(2, (.slice X nx cx)), (3, (.pointer (some ⟨b1, 0, none⟩))), (4, (.pointer (some ⟨b2, 0, none⟩))), (6, (.pointer (some ⟨b3, 0, none⟩))), (7, (.pointer (some ⟨b3001, 0, none⟩))), (8, (.int .i64 ((k : Int) + 1))), (9, (.pointer (some ⟨b7001, 0, none⟩))), (18, (.int .i64 ((k : Int) + 1))), (19, (.pointer (some ⟨b1, 3, none⟩))), (20, (.slice (R.C) R.lc R.cc)), (21, (.int .i64 (R.lc : Int))), (25, (.agg (mCs R M).toArray)), (26, (.agg (cCs Q).toArray)), (27, (.slice X nx cx)), (28, (.pointer (some ⟨b1, 3, none⟩))), (29, (.slice (R.C) R.lc R.cc)), (30, (.int .i64 ((k : Int) + 1))), (31, (.pointer (some ⟨b31, o31 + (k + 1) * 2 + 0, none⟩))), (32, (.agg #[.int .i64 (limP M (k + 1)).r, .int .i64 (limP M (k + 1)).z])), (33, (.agg #[.int .i64 (flS M C xs (limP M (k + 1))).lo, .int .i64 (flS M C xs (limP M (k + 1))).hi]))] [(b7001, .cells [(.int .i64 0), (.int .i64 0)]), (b3001, .cells [.int .i64 (bdI M C xs k).lo, .int .i64 (bdI M C xs k).hi]), (b3, .cells [(.int .i64 0), (.int .i64 0)]), (b2, .cells ((cCs Q))), (b1, .cells ((mCs R M)))]) ?_ (fun hS2_0 => ?_)
      · intro b7001
        refine ah_one 10 rfl (by kernel_rfl) (fun hok2 hcl2 => ?_)
        refine al_storeAll (i := 0) rfl rfl rfl rfl Tryz.sizeOf52 rfl rfl .k0 rfl (al_end (ah_last (by kernel_rfl) ?_))
        refine aq_then (ac_draw 11 (by kernel_rfl) (by kernel_rfl) ?_)
        refine ah_t 0 (fun w9 hs => hs) rfl rfl (by kernel_rfl) (q_fieldAddr 0 rfl Tryz.runUnderlying52 rfl Tryz.sizeOf3 (by decide) rfl) (ah_t 1 (fun w9 hs => hs) rfl rfl (by kernel_rfl) (q_load (i := 1) rfl rfl rfl Tryz.isAgg3) ?_)
        refine ah_t 2 (fun w9 hs => hs) rfl rfl (by kernel_rfl) (q_fieldAddr 0 rfl Tryz.runUnderlying52 rfl Tryz.sizeOf3 (by decide) rfl) (ah_t 3 (fun w9 hs => hs) rfl rfl (by kernel_rfl) (q_load (i := 0) rfl rfl rfl Tryz.isAgg3) ?_)
        refine ah_t 5 (fun w9 hs => hs) rfl rfl (by kernel_rfl) (q_fieldAddr 1 rfl Tryz.runUnderlying52 rfl Tryz.sizeOf3 (by decide) rfl) (ah_t 6 (fun w9 hs => hs) rfl rfl (by kernel_rfl) (q_load (i := 1) rfl rfl rfl Tryz.isAgg3) ?_)
        refine ah_t 7 (fun w9 hs => hs) rfl rfl (by kernel_rfl) (q_fieldAddr 1 rfl Tryz.runUnderlying52 rfl Tryz.sizeOf3 (by decide) rfl) (ah_t 8 (fun w9 hs => hs) rfl rfl (by kernel_rfl) (q_load (i := 0) rfl rfl rfl Tryz.isAgg3) (ah_one 4 rfl (by kernel_rfl) (fun hok3 hcl3 => ?_)))
        refine al_call Tryz.call81 (.cons rfl (.cons rfl .nil)) rfl rfl (fun w5 hs5 => ?_)
        refine (rmost_any (bdI M C xs k).lo (flS M C xs (limP M (k + 1))).lo _).mono ?_
        rintro e u5 ⟨rfl, hb_5⟩
        refine ⟨_, rfl, hb_5, ?_⟩
        clear hs5
        refine al_end (ah_back hok3 hcl3 (fun w9 hs => (hs.fewer 1 rfl)) ?_)
        refine ah_one 9 rfl (by kernel_rfl) (fun hok4 hcl4 => ?_)
        refine al_call Tryz.call81 (.cons rfl (.cons rfl .nil)) rfl rfl (fun w6 hs6 => ?_)
        refine (rmost_any (bdI M C xs k).hi (flS M C xs (limP M (k + 1))).hi _).mono ?_
        rintro e u6 ⟨rfl, hb_6⟩
        refine ⟨_, rfl, hb_6, ?_⟩
        clear hs6
        refine al_end (ah_back hok4 hcl4 (fun w9 hs => (hs.fewer 2 rfl)) ?_)
        refine ah_t 10 (fun w9 hs => (hs.fewer 2 rfl)) rfl rfl (by kernel_rfl) (q_build (.cons rfl (.cons rfl .nil)) (eqq_bl_apiSpan_0_1 _ _ rfl rfl)) (ah_one 11 rfl (by kernel_rfl) (fun hok5 hcl5 => ?_))
        refine al_storeAll (i := 1) rfl rfl rfl rfl Tryz.sizeOf52 rfl rfl .k1 rfl (al_end (ah_last (by kernel_rfl) ?_))
        refine aq_inN (aq_then (ac_region (al_p (q_move rfl) ?_)))
        refine al_p (q_add rfl rfl (by omega)) (al_p (q_assign rfl) (al_end (aq_then ?_)))
        skip
        refine aq_round (k + 1) (by omega) (by omega) ⟨rfl, rfl, rfl, rfl, rfl, (by simp; rfl), trivial⟩ (fun w9 hs => (by rw [bdI_lo, bdI_hi]; exact ((hs.fewer 2 rfl).tail 1 rfl)))
      · refine ah_t 0 (fun w9 hs => hs) rfl rfl (by kernel_rfl) (q_loadAll (i := 3) rfl rfl Tryz.isAgg29 Tryz.sizeOf29 rfl) (ah_t 1 (fun w9 hs => hs) rfl rfl (by kernel_rfl) (q_loadAll (i := 2) rfl rfl Tryz.isAgg32 Tryz.sizeOf32 rfl) (ah_t 2 (fun w9 hs => hs) rfl rfl (by kernel_rfl) (q_move rfl) ?_))
        refine ah_t 3 (fun w9 hs => hs) rfl rfl (by kernel_rfl) (q_fieldAddr 3 rfl Tryz.runUnderlying29 rfl Tryz.sizeOf24 (by decide) rfl) (ah_t 4 (fun w9 hs => hs) rfl rfl (by kernel_rfl) (q_load (i := 3) rfl rfl rfl Tryz.isAgg24) (ah_t 5 (fun w9 hs => hs) rfl rfl (by kernel_rfl) (q_move rfl) ?_))
        refine ah_t 6 (fun w9 hs => hs) rfl rfl (by kernel_rfl) (q_indexAddrA (i := (k + 1)) (o31 + (k + 1) * 2 + 0) hA3 rfl rfl (by omega) (by omega) Tryz.runUnderlying24 Tryz.sizeOf36 rfl) (ah_t 7 (fun w9 hs => hs) rfl rfl (by kernel_rfl) (q_loadXs (PointD.cells (limP M (k + 1))) rfl Tryz.isAgg36 Tryz.sizeOf36 (fun w9 hs j9 v9 h9 => by rw [addr_add]; exact (hs.below.cell (p := ⟨_, _, none⟩) hlt3).trans ((hget3 (k + 1) _ hx3) j9 v9 h9)) rfl) ?_)
        refine ah_two 8 9 rfl rfl  (by kernel_rfl) (fun hok6 hcl6 => ?_) (fun hok6 hcl6 => ?_)
        · refine al_call Tryz.call65 (.cons rfl (.cons rfl (.cons rfl (.cons rfl .nil)))) rfl rfl (fun w7 hs7 => ?_)
          refine (rflux_any R M Q C X nx cx xs (limP M (k + 1)) t _ (hM.below hs7.below) (hC.below hs7.below) (hS.below hs7.below) hf hX ht).mono ?_
          rintro e u7 ⟨rfl, hb_7⟩
          refine ⟨_, rfl, hb_7, ?_⟩
          clear hs7
          refine al_end (ah_back hok6 hcl6 (fun w9 hs => (hs.fewer 1 rfl)) ?_)
          refine ah_few ?_
          refine ah_one 9 rfl (by kernel_rfl) (fun hok7 hcl7 => ?_)
          refine al_new (fun b => .pointer (some ⟨b, 0, none⟩)) (r_alloc Tryz.zeroValue52 rfl) rfl rfl rfl ?_
          intro b4
          refine al_end (ah_back hok7 hcl7 (fun w9 hs => (hs.tail 1 rfl)) ?_)
          exact ah_to (hS2_0 b4) rfl (by kernel_rfl) ⟨rfl, rfl, rfl, rfl, rfl, rfl, rfl, rfl, rfl, rfl, rfl, rfl, rfl, rfl, rfl, rfl, rfl, rfl, rfl, rfl, trivial⟩ (fun w9 hs => hs)
        · refine al_new (fun b => .pointer (some ⟨b, 0, none⟩)) (r_alloc Tryz.zeroValue52 rfl) rfl rfl rfl ?_
          intro b5
          refine al_end (ah_back hok6 hcl6 (fun w9 hs => (hs.tail 1 rfl)) ?_)
          refine ah_one 8 rfl (by kernel_rfl) (fun hok8 hcl8 => ?_)
          refine al_call Tryz.call65 (.cons rfl (.cons rfl (.cons rfl (.cons rfl .nil)))) rfl rfl (fun w8 hs8 => ?_)
          refine (rflux_any R M Q C X nx cx xs (limP M (k + 1)) t _ (hM.below hs8.below) (hC.below hs8.below) (hS.below hs8.below) hf hX ht).mono ?_
          rintro e u8 ⟨rfl, hb_8⟩
          refine ⟨_, rfl, hb_8, ?_⟩
          clear hs8
          refine al_end (ah_back hok8 hcl8 (fun w9 hs => ((hs.fewer 1 rfl).tail 1 rfl)) ?_)
          refine ah_few ?_
          exact ah_to (hS2_0 b5) rfl (by kernel_rfl) ⟨rfl, rfl, rfl, rfl, rfl, rfl, rfl, rfl, rfl, rfl, rfl, rfl, rfl, rfl, rfl, rfl, rfl, rfl, rfl, rfl, trivial⟩ (fun w9 hs => hs)
    · have hke : k = M.limits.length - 1 := by have := of_decide_eq_false h1; omega
      refine ac_exit (aq_thenE (aq_thenE (aq_hit (aq_then ?_))))
      refine ac_seq (ac_region ?_)
      refine al_p (q_loadAll (i := 0) rfl rfl Tryz.isAgg52 Tryz.sizeOf52 rfl) (al_storeAll (i := 1) rfl rfl rfl rfl Tryz.sizeOf52 rfl rfl .k1 rfl (al_end (aq_then ?_)))
      refine ac_ret (retR Tryz.results101 (.agg (i := 1) rfl rfl Tryz.isAgg52 Tryz.sizeOf52 rfl .nil) .one (fun w9 hs => ?_))
      exact ⟨by rw [← bdI_all, ← hke], hs.below⟩
  · refine ah_t 0 (fun w9 hs => hs) rfl rfl (by kernel_rfl) (q_loadAll (i := 2) rfl rfl Tryz.isAgg29 Tryz.sizeOf29 rfl) (ah_t 1 (fun w9 hs => hs) rfl rfl (by kernel_rfl) (q_loadAll (i := 1) rfl rfl Tryz.isAgg32 Tryz.sizeOf32 rfl) (ah_t 2 (fun w9 hs => hs) rfl rfl (by kernel_rfl) (q_move rfl) ?_))
    refine ah_t 3 (fun w9 hs => hs) rfl rfl (by kernel_rfl) (q_fieldAddr 3 rfl Tryz.runUnderlying29 rfl Tryz.sizeOf24 (by decide) rfl) (ah_t 4 (fun w9 hs => hs) rfl rfl (by kernel_rfl) (q_load (i := 2) rfl rfl rfl Tryz.isAgg24) ?_)
    refine ah_t 5 (fun w9 hs => hs) rfl rfl (by kernel_rfl) (q_indexAddrA (i := (0)) (o31 + (0) * 2 + 0) hA3 rfl rfl rfl (by omega) Tryz.runUnderlying24 Tryz.sizeOf36 rfl) (ah_t 6 (fun w9 hs => hs) rfl rfl (by kernel_rfl) (q_loadXs (PointD.cells (limP M (0))) rfl Tryz.isAgg36 Tryz.sizeOf36 (fun w9 hs j9 v9 h9 => by rw [addr_add]; exact (hs.below.cell (p := ⟨_, _, none⟩) hlt3).trans ((hget3 (0) _ hx3) j9 v9 h9)) rfl) ?_)
    refine ah_two 7 8 rfl rfl  (by kernel_rfl) (fun hok9 hcl9 => ?_) (fun hok9 hcl9 => ?_)
    · refine al_call Tryz.call65 (.cons rfl (.cons rfl (.cons rfl (.cons rfl .nil)))) rfl rfl (fun w9 hs9 => ?_)
      refine (rflux_any R M Q C X nx cx xs (limP M 0) t _ (hM.below hs9.below) (hC.below hs9.below) (hS.below hs9.below) hf hX ht).mono ?_
      rintro e u9 ⟨rfl, hb_9⟩
      refine ⟨_, rfl, hb_9, ?_⟩
      clear hs9
      refine al_end (ah_back hok9 hcl9 (fun w9 hs => (hs.fewer 1 rfl)) ?_)
      refine ah_few ?_
      refine ah_one 8 rfl (by kernel_rfl) (fun hok10 hcl10 => ?_)
      refine al_new (fun b => .pointer (some ⟨b, 0, none⟩)) (r_alloc Tryz.zeroValue52 rfl) rfl rfl rfl ?_
      intro b6
      refine al_end (ah_back hok10 hcl10 (fun w9 hs => (hs.tail 1 rfl)) ?_)
      exact ah_to (hS1_0 b6) rfl (by kernel_rfl) ⟨rfl, rfl, rfl, rfl, rfl, rfl, trivial⟩ (fun w9 hs => hs)
    · refine al_new (fun b => .pointer (some ⟨b, 0, none⟩)) (r_alloc Tryz.zeroValue52 rfl) rfl rfl rfl ?_
      intro b7
      refine al_end (ah_back hok9 hcl9 (fun w9 hs => (hs.tail 1 rfl)) ?_)
      refine ah_one 7 rfl (by kernel_rfl) (fun hok11 hcl11 => ?_)
      refine al_call Tryz.call65 (.cons rfl (.cons rfl (.cons rfl (.cons rfl .nil)))) rfl rfl (fun w10 hs10 => ?_)
      refine (rflux_any R M Q C X nx cx xs (limP M 0) t _ (hM.below hs10.below) (hC.below hs10.below) (hS.below hs10.below) hf hX ht).mono ?_
      rintro e u10 ⟨rfl, hb_10⟩
      refine ⟨_, rfl, hb_10, ?_⟩
      clear hs10
      refine al_end (ah_back hok11 hcl11 (fun w9 hs => ((hs.fewer 1 rfl).tail 1 rfl)) ?_)
      refine ah_few ?_
      exact ah_to (hS1_0 b7) rfl (by kernel_rfl) ⟨rfl, rfl, rfl, rfl, rfl, rfl, trivial⟩ (fun w9 hs => hs)
end
section
open Go.RowKit
theorem bn_ok {M : MachD} {C : CurD} {xs : List SpanD} (h : bnE M C xs = 0) : Fit2 M C ∧ FitX M 1000000 xs ∧ bnS M C xs = bdS M C xs := by
  unfold bnE at h
  by_cases hv : bnV M C xs = true
  · have h1 := hv
    unfold bnV at h1
    rw [Bool.and_eq_true] at h1
    exact ⟨fit2_iff.1 h1.1, boxB_iff.1 h1.2, if_pos hv⟩
  · rw [if_neg hv] at h; cases h
theorem bn_bad {M : MachD} {C : CurD} {xs : List SpanD} (h : bnE M C xs ≠ 0) : bnV M C xs = false ∧ bnE M C xs = 1 := by
  unfold bnE at *
  by_cases hv : bnV M C xs = true
  · rw [if_pos hv] at h; exact absurd rfl h
  · exact ⟨by simpa using hv, if_neg hv⟩
def sdA (M : MachD) (C : CurD) (xs : List SpanD) (k : Nat) : Int := if (bdS M C xs).hi < (flS M C xs (cellP M k)).lo then 1 else if (flS M C xs (cellP M k)).hi ≤ (bdS M C xs).lo then 0 else 2
def sdL (M : MachD) (C : CurD) (xs : List SpanD) : List Int := if bnV M C xs = true then lst (cellN M) (sdA M C xs) else []
def sdC (M : MachD) (C : CurD) (xs : List SpanD) (k : Nat) : List Value := (lst k (sdA M C xs)).flatMap intCells
theorem sdC_succ (M : MachD) (C : CurD) (xs : List SpanD) (k : Nat) : sdC M C xs (k + 1) = sdC M C xs k ++ [.int .i64 (sdA M C xs k)] := by unfold sdC; rw [lst_snoc, List.flatMap_append]; simp [intCells]
theorem bnV_ok {M : MachD} {C : CurD} {xs : List SpanD} (h : bnE M C xs = 0) : bnV M C xs = true := by
  unfold bnE at h
  by_cases hv : bnV M C xs = true
  · exact hv
  · rw [if_neg hv] at h; cases h
theorem eqs_bl_apiSpan_ : ∀ w, (Instr.build 52 #[]).run Tryz.prog w = .ok (.agg #[(.int .i64 0), (.int .i64 0)]) w := by
  intro w; simp [Instr.build, Instr.fill, cells_agg, Tryz.runUnderlying52, Tryz.zeroValue52, Tryz.sizeOf3]
set_option maxRecDepth 100000 in
theorem rBoundary_any (R : MachR) (M : MachD) (Q : CurR) (C : CurD)   (X : Option Addr) (nx cx : Nat) (xs : List SpanD) (w : World) (hM : IsM w R M) (hC : IsC w Q C) (hS : IsT 2 SpanD.cells w X nx xs) (hlx : nx ≤ 1000000000000000) : Calls Tryz.prog 63 #[(.agg (mCs R M).toArray), (.agg (cCs Q).toArray), (.slice X nx cx)] w (Ret (.tuple #[.agg #[.int .i64 (bnS M C xs).lo, .int .i64 (bnS M C xs).hi], .int .i64 (bnE M C xs)]) w) := by
  refine calls_ax (vs := [(.agg (mCs R M).toArray), (.agg (cCs Q).toArray), (.slice X nx cx)]) Tryz.func63 rfl rfl ?_
  refine ac_seq (ac_region ?_)
  refine al_new (fun b => .pointer (some ⟨b, 0, none⟩)) (r_box rfl rfl) rfl rfl rfl ?_
  intro b1
  refine al_new (fun b => .pointer (some ⟨b, 0, none⟩)) (r_box rfl rfl) rfl rfl rfl ?_
  intro b2
  refine al_new (fun b => .pointer (some ⟨b, 0, none⟩)) (r_alloc Tryz.zeroValue52 rfl) rfl rfl rfl ?_
  intro b3
  refine al_p (q_assign rfl) (al_end (aq_then ?_))
  refine ac_seq (ac_seq (ac_region ?_))
  refine al_p (q_loadAll (i := 2) rfl rfl Tryz.isAgg29 Tryz.sizeOf29 rfl) (al_p (q_loadAll (i := 1) rfl rfl Tryz.isAgg32 Tryz.sizeOf32 rfl) (al_call Tryz.call30 (.cons rfl (.cons rfl .nil)) rfl rfl (fun w1 hs1 => ?_)))
  refine (rvalid5_any R M Q C _ (hM.below hs1.below) (hC.below hs1.below)).mono ?_
  rintro e u1 ⟨rfl, hb_1⟩
  refine ⟨_, rfl, hb_1, ?_⟩
  clear hs1
  refine al_p (q_not rfl) (al_p (q_move rfl) ?_)
  refine aq_split 12 rfl (fun hb1 => ?_) (fun hb1 => ?_)
  · have hbn : bnV M C xs = false := by unfold bnV; rw [show validC M C = false by simpa using hb1]; rfl
    refine al_skip rfl rfl rfl (al_skip rfl rfl rfl (al_skip rfl rfl rfl (al_skip rfl rfl rfl (al_p (q_pickT rfl rfl) ?_))))
    refine al_end (aq_then ?_)
    refine ac_condT rfl (ac_seq (ac_region ?_))
    refine al_p (q_build .nil (eqs_bl_apiSpan_)) (al_storeAll (i := 0) rfl rfl rfl rfl Tryz.sizeOf52 rfl rfl .k0 rfl (al_p (q_assign rfl) (al_end (aq_then ?_))))
    refine ac_ret (aq_thenR (retR Tryz.results63 (.agg (i := 0) rfl rfl Tryz.isAgg52 Tryz.sizeOf52 rfl (.tmp rfl .nil)) .two (fun w9 hs => ?_)))
    unfold bnS bnE; rw [hbn]; exact ⟨rfl, hs.below⟩
  · have hv : validC M C = true := by simpa using hb1
    refine al_p (q_loadAll (i := 2) rfl rfl Tryz.isAgg29 Tryz.sizeOf29 rfl) (al_p (q_move rfl) (al_call Tryz.call29 (.cons rfl (.cons rfl (.cons rfl .nil))) rfl rfl (fun w2 hs2 => ?_)))
    refine (rvbox_any R M X nx cx xs 1000000 _ (hM.below hs2.below) (hS.below hs2.below) hlx).mono ?_
    rintro e u2 ⟨rfl, hb_2⟩
    refine ⟨_, rfl, hb_2, ?_⟩
    clear hs2
    refine al_p (q_not rfl) (al_p (q_pickF rfl rfl) (al_end (aq_then ?_)))
    refine ac_cond rfl (fun h1 => ?_) (fun h1 => ?_)
    · have hbn : bnV M C xs = false := by unfold bnV; rw [hv, show boxB M 1000000 xs = false by simpa using h1]; rfl
      refine ac_seq (ac_region ?_)
      refine al_p (q_build .nil (eqs_bl_apiSpan_)) (al_storeAll (i := 0) rfl rfl rfl rfl Tryz.sizeOf52 rfl rfl .k0 rfl (al_p (q_assign rfl) (al_end (aq_then ?_))))
      refine ac_ret (aq_thenR (retR Tryz.results63 (.agg (i := 0) rfl rfl Tryz.isAgg52 Tryz.sizeOf52 rfl (.tmp rfl .nil)) .two (fun w9 hs => ?_)))
      unfold bnS bnE; rw [hbn]; exact ⟨rfl, hs.below⟩
    · have hb : boxB M 1000000 xs = true := by simpa using h1
      have hbn : bnV M C xs = true := by unfold bnV; rw [hv, hb]; rfl
      refine ac_skip (aq_then (ac_seq (ac_region ?_)))
      refine al_p (q_loadAll (i := 2) rfl rfl Tryz.isAgg29 Tryz.sizeOf29 rfl) (al_p (q_loadAll (i := 1) rfl rfl Tryz.isAgg32 Tryz.sizeOf32 rfl) (al_p (q_move rfl) (al_call Tryz.call101 (.cons rfl (.cons rfl (.cons rfl .nil))) rfl rfl (fun w3 hs3 => ?_))))
      refine (rbnd_any R M Q C X nx cx xs 1000000 _ (hM.below hs3.below) (hC.below hs3.below) (hS.below hs3.below) (fit2_iff.1 hv) (boxB_iff.1 hb) (by omega)).mono ?_
      rintro e u3 ⟨rfl, hb_3⟩
      refine ⟨_, rfl, hb_3, ?_⟩
      clear hs3
      refine al_storeAll (i := 0) rfl rfl rfl rfl Tryz.sizeOf52 rfl rfl .k0 rfl (al_p (q_assign rfl) (al_end (aq_then ?_)))
      refine ac_ret (retR Tryz.results63 (.agg (i := 0) rfl rfl Tryz.isAgg52 Tryz.sizeOf52 rfl (.tmp rfl .nil)) .two (fun w9 hs => ?_))
      unfold bnS bnE; rw [hbn]; exact ⟨rfl, hs.below⟩
theorem eqs_bs_apiTruth_1_0_ (a0 : Value) (ha0 : a0.oneCell' = true) : ∀ w, (Instr.buildSlice 56 1 #[(0, a0)]).run Tryz.prog w = .ok (.slice (some ⟨w.heap.size, 0, none⟩) 1 1) (w.alloc (.cells [a0].toArray 59)) := by
  have ea0 : a0.cells = #[a0] := cells_one ha0
  intro w; (simp [Instr.buildSlice, Instr.fill, cells_agg, newRow, Tryz.runUnderlying56, Tryz.zeroValue59, Tryz.sizeOf59, ea0] <;> (rw [(by kernel_rfl : Array.range 1 = #[0])]; simp [Value.cells]))
set_option maxRecDepth 100000 in
theorem rSides_any (R : MachR) (M : MachD) (Q : CurR) (C : CurD)   (X : Option Addr) (nx cx : Nat) (xs : List SpanD) (w : World) (hM : IsM w R M) (hC : IsC w Q C) (hS : IsT 2 SpanD.cells w X nx xs) (hlx : nx ≤ 1000000000000000) : Calls Tryz.prog 26 #[(.agg (mCs R M).toArray), (.agg (cCs Q).toArray), (.slice X nx cx)] w (OutT 1 intCells w (bnE M C xs) (sdL M C xs)) := by
  refine calls_ax (vs := [(.agg (mCs R M).toArray), (.agg (cCs Q).toArray), (.slice X nx cx)]) Tryz.func26 rfl rfl ?_
  refine ac_seq (ac_region ?_)
  refine al_new (fun b => .pointer (some ⟨b, 0, none⟩)) (r_box rfl rfl) rfl rfl rfl ?_
  intro b1
  refine al_new (fun b => .pointer (some ⟨b, 0, none⟩)) (r_box rfl rfl) rfl rfl rfl ?_
  intro b2
  refine al_p (q_assign rfl) (al_p (q_assign rfl) (al_end (aq_then ?_)))
  refine ac_seq (ac_region ?_)
  refine al_p (q_loadAll (i := 1) rfl rfl Tryz.isAgg29 Tryz.sizeOf29 rfl) (al_p (q_loadAll (i := 0) rfl rfl Tryz.isAgg32 Tryz.sizeOf32 rfl) (al_p (q_move rfl) (al_call Tryz.call63 (.cons rfl (.cons rfl (.cons rfl .nil))) rfl rfl (fun w1 hs1 => ?_))))
  refine (rBoundary_any R M Q C X nx cx xs _ (hM.below hs1.below) (hC.below hs1.below) (hS.below hs1.below) hlx).mono ?_
  rintro e u1 ⟨rfl, hb_1⟩
  refine ⟨_, rfl, hb_1, ?_⟩
  clear hs1
  refine al_p (q_move rfl) (al_p (q_extract rfl rfl) (al_p (q_extract rfl rfl) (al_new (fun b => .pointer (some ⟨b, 0, none⟩)) (r_alloc Tryz.zeroValue52 rfl) rfl rfl rfl ?_)))
  intro b3
  refine al_storeAll (i := 0) rfl rfl rfl rfl Tryz.sizeOf52 rfl rfl .k0 rfl (al_p (q_assign rfl) (al_end (aq_then ?_)))
  refine ac_seq (ac_seq (ac_region ?_))
  refine al_p (q_move rfl) (al_p (q_neq rfl rfl) (al_end (aq_then ?_)))
  refine ac_cond rfl (fun h1 => ?_) (fun h1 => ?_)
  · have hne := bne_iff_ne.1 h1
    obtain ⟨e1, e2⟩ := bn_bad hne
    refine ac_seq (ac_region ?_)
    refine al_p (q_move rfl) (al_p (q_assign rfl) (al_p (q_assign rfl) (al_end (aq_then ?_))))
    refine ac_ret (aq_thenR (ret2 Tryz.results26 rfl rfl (fun w9 hs => ?_)))
    unfold sdL; rw [e1, e2]; exact OutT.nil hs.below
  · have hok : bnE M C xs = 0 := by simpa using h1
    obtain ⟨hf, hX, e1⟩ := bn_ok hok
    have hcn := cellN_eq hX.check
    have ht : (1000000 : Int) ≤ 1000000 := by omega
    have n1 := hS.1
    have n2 := hX.len
    have e3 : (bnS M C xs).lo = (bdS M C xs).lo := by rw [e1]
    have e4 : (bnS M C xs).hi = (bdS M C xs).hi := by rw [e1]
    refine ac_skip (aq_then (ac_seq (ac_region ?_)))
    refine al_p (q_assign rfl) (al_end (aq_then ?_))
    refine ac_seq (ac_region ?_)
    refine al_p (q_loadAll (i := 2) rfl rfl Tryz.isAgg29 Tryz.sizeOf29 rfl) (al_call Tryz.call64 (.cons rfl .nil) rfl rfl (fun w2 hs2 => ?_))
    refine (rcells5_any R M _ (hM.below hs2.below) hX.check).mono ?_
    rintro e u2 ⟨A7, c7, rfl, N7, hb_2⟩
    refine ⟨_, rfl, hb_2, ?_⟩
    clear hs2
    refine al_p (q_assign rfl) (al_end (aq_then ?_))
    refine ac_seq (ac_seq (ac_region ?_))
    refine al_p (q_assign rfl) (al_end (aq_then ?_))
    refine ac_block ?_
    refine ac_loop (β := Nat × Gr) (fun p => p.1 ≤ cellN M ∧ gok p.2 p.1 1 (sdC M C xs p.1)) (fun p => [(2, (.slice X nx cx)), (3, (.pointer (some ⟨b1, 0, none⟩))), (4, (.pointer (some ⟨b2, 0, none⟩))), (6, (.slice none 0 0)), (7, (.int .i64 0)), (8, (.pointer (some ⟨b3, 0, none⟩))), (10, (.slice (gA p.2) p.1 (gC p.2))), (11, (.slice A7 (cellN M) c7)), (12, (.int .i64 (p.1 : Int)))]) (fun _ => _) (fun p => (b3, _) :: (b2, _) :: (b1, _) :: (gt p.2 (sdC M C xs p.1) ++ ([]))) (fun p => cellN M - p.1) (0, none) ⟨Nat.zero_le _, gok.none 1⟩ ⟨rfl, rfl, rfl, rfl, rfl, rfl, rfl, rfl, rfl, trivial⟩ (fun w9 hs => (by rw [show gt none (sdC M C xs 0) = [] from rfl, List.nil_append]; exact hs)) (fun p hF1 => ?_)
    obtain ⟨hpx, hgp⟩ := hF1
    refine ac_seq (ac_seq (ac_region ?_))
    refine al_p (q_move rfl) (al_p (q_move rfl) (al_p (q_lenS rfl Tryz.runUnderlying24) (al_p (q_lss rfl rfl) (al_end (aq_then ?_)))))
    refine ac_cond rfl (fun h2 => ?_) (fun h2 => ?_)
    · have hkn : p.1 < cellN M := by have := of_decide_eq_true h2; omega
      obtain ⟨b71, o71, hA7, hlt7, hget7⟩ := N7.isT.2 (by omega)
      have hx7 := lst_get (cellP M) (n := cellN M) (k := p.1) (by omega)
      refine ac_skip (aq_then (ac_seq (ac_block (ac_seq ?_))))
      refine ac_drawF 9 (.s (.s (.s .z))) (by kernel_rfl) (by kernel_rfl) ?_
      refine ah_t 0 (fun w9 hs => (hs.front (.s (.s (.s (.z)))))) rfl rfl (by kernel_rfl) (q_loadAll (i := 2) rfl rfl Tryz.isAgg29 Tryz.sizeOf29 rfl) (ah_t 1 (fun w9 hs => (hs.front (.s (.s (.s (.z)))))) rfl rfl (by kernel_rfl) (q_loadAll (i := 1) rfl rfl Tryz.isAgg32 Tryz.sizeOf32 rfl) (ah_t 2 (fun w9 hs => (hs.front (.s (.s (.s (.z)))))) rfl rfl (by kernel_rfl) (q_move rfl) (ah_t 3 (fun w9 hs => (hs.front (.s (.s (.s (.z)))))) rfl rfl (by kernel_rfl) (q_move rfl) (ah_t 4 (fun w9 hs => (hs.front (.s (.s (.s (.z)))))) rfl rfl (by kernel_rfl) (q_move rfl) ?_))))
      refine ah_t 5 (fun w9 hs => (hs.front (.s (.s (.s (.z)))))) rfl rfl (by kernel_rfl) (q_indexAddrA (i := p.1) (o71 + p.1 * 2 + 0) hA7 rfl rfl rfl (by omega) Tryz.runUnderlying24 Tryz.sizeOf36 rfl) (ah_t 6 (fun w9 hs => (hs.front (.s (.s (.s (.z)))))) rfl rfl (by kernel_rfl) (q_loadXs (PointD.cells (cellP M p.1)) rfl Tryz.isAgg36 Tryz.sizeOf36 (fun w9 hs j9 v9 h9 => by rw [addr_add]; exact (cell_blkx ((hs.snap _ _ (.head _)).2.2.2.1 b71 (N7.new _ _ hA7) hlt7)).trans ((hget7 p.1 _ hx7) j9 v9 h9)) rfl) ?_)
      refine ah_two 7 8 rfl rfl  (by kernel_rfl) (fun hok1 hcl1 => ?_) (fun hok1 hcl1 => ?_)
      · refine al_call Tryz.call65 (.cons rfl (.cons rfl (.cons rfl (.cons rfl .nil)))) rfl rfl (fun w3 hs3 => ?_)
        refine (rflux_any R M Q C X nx cx xs (cellP M p.1) 1000000 _ (hM.below hs3.below) (hC.below hs3.below) (hS.below hs3.below) hf hX ht).mono ?_
        rintro e u3 ⟨rfl, hb_3⟩
        refine ⟨_, rfl, hb_3, ?_⟩
        clear hs3
        refine al_end (ah_back hok1 hcl1 (fun w9 hs => ((hs.fewer 1 rfl).front (.s (.s (.s (.z)))))) ?_)
        refine ah_one 8 rfl (by kernel_rfl) (fun hok2 hcl2 => ?_)
        refine al_new (fun b => .pointer (some ⟨b, 0, none⟩)) (r_alloc Tryz.zeroValue52 rfl) rfl rfl rfl ?_
        intro b4
        refine al_end (ah_back hok2 hcl2 (fun w9 hs => (((hs.fewer 1 rfl).tail 1 rfl).front (.s (.s (.s (.z)))))) ?_)
        refine ah_one 9 rfl (by kernel_rfl) (fun hok3 hcl3 => ?_)
        refine al_storeAll (i := 0) rfl rfl rfl rfl Tryz.sizeOf52 rfl rfl .k0 rfl (al_end (ah_last (by kernel_rfl) ?_))
        refine aq_then (ac_block (ac_seq (ac_region ?_)))
        refine al_p (q_fieldAddr 0 rfl Tryz.runUnderlying52 rfl Tryz.sizeOf3 (by decide) rfl) (al_p (q_load (i := 0) rfl rfl rfl Tryz.isAgg3) ?_)
        refine al_p (q_fieldAddr 1 rfl Tryz.runUnderlying52 rfl Tryz.sizeOf3 (by decide) rfl) (al_p (q_load (i := 1) rfl rfl rfl Tryz.isAgg3) (al_p (q_gtr rfl rfl) (al_p (q_assign rfl) (al_end (aq_then ?_)))))
        refine ac_cond rfl (fun h3 => ?_) (fun h3 => ?_)
        · have hv : (1 : Int) = sdA M C xs p.1 := by unfold sdA; rw [if_pos (by have := of_decide_eq_true h3; omega)]
          refine ac_region (al_p (q_move rfl) (al_new (fun b => .slice (some ⟨b, 0, none⟩) 1 1) (r_buildSlice (.cons rfl .nil) (eqs_bs_apiTruth_1_0_ _ rfl)) rfl rfl rfl ?_))
          intro b5
          refine al_grow (z := 1) (bytes := 8) (zv := (.int .i64 0)) (o := p.2) (cs := (sdC M C xs p.1)) (vs := [.int .i64 1]) rfl rfl (.s (.s (.s (.s (.s (.z)))))) hgp (Sor.box (j := 0) rfl rfl rfl) Tryz.underlying56 (by kernel_rfl) rfl (by omega) (by decide) rfl rfl (fun o_1 g_1 => ?_)
          refine ⟨_, (.s (.s (.s (.s (.s (.z)))))), ?_⟩
          refine al_p (q_assign rfl) (al_end (aq_inN (aq_inN (aq_then ?_))))
          refine ac_region (al_p (q_move rfl) ?_)
          refine al_p (q_add rfl rfl (by omega)) (al_p (q_assign rfl) (al_end (aq_then ?_)))
          skip
          refine aq_round ((p.1 + 1, o_1)) (by simp only; omega) ⟨by simp only; omega, by simp only; rw [sdC_succ, ← hv]; exact g_1⟩ ⟨rfl, rfl, rfl, rfl, rfl, rfl, rfl, rfl, rfl, trivial⟩ (fun w9 hs => (by dsimp only; rw [sdC_succ, ← hv]; exact ((hs.fewer 1 rfl).tail 2 rfl)))
        · have hv3 := of_decide_eq_false h3
          refine ac_seq (ac_region ?_)
          refine al_p (q_fieldAddr 1 rfl Tryz.runUnderlying52 rfl Tryz.sizeOf3 (by decide) rfl) (al_p (q_load (i := 0) rfl rfl rfl Tryz.isAgg3) ?_)
          refine al_p (q_fieldAddr 0 rfl Tryz.runUnderlying52 rfl Tryz.sizeOf3 (by decide) rfl) (al_p (q_load (i := 1) rfl rfl rfl Tryz.isAgg3) (al_p (q_leq rfl rfl) (al_p (q_assign rfl) (al_end (aq_then ?_)))))
          refine ac_cond rfl (fun h4 => ?_) (fun h4 => ?_)
          · have hv : (0 : Int) = sdA M C xs p.1 := by unfold sdA; rw [if_neg (by omega), if_pos (by have := of_decide_eq_true h4; omega)]
            refine ac_region (al_p (q_move rfl) (al_new (fun b => .slice (some ⟨b, 0, none⟩) 1 1) (r_buildSlice (.cons rfl .nil) (eqs_bs_apiTruth_1_0_ _ rfl)) rfl rfl rfl ?_))
            intro b6
            refine al_grow (z := 1) (bytes := 8) (zv := (.int .i64 0)) (o := p.2) (cs := (sdC M C xs p.1)) (vs := [.int .i64 0]) rfl rfl (.s (.s (.s (.s (.s (.z)))))) hgp (Sor.box (j := 0) rfl rfl rfl) Tryz.underlying56 (by kernel_rfl) rfl (by omega) (by decide) rfl rfl (fun o_2 g_2 => ?_)
            refine ⟨_, (.s (.s (.s (.s (.s (.z)))))), ?_⟩
            refine al_p (q_assign rfl) (al_end (aq_inN (aq_inN (aq_then ?_))))
            refine ac_region (al_p (q_move rfl) ?_)
            refine al_p (q_add rfl rfl (by omega)) (al_p (q_assign rfl) (al_end (aq_then ?_)))
            skip
            refine aq_round ((p.1 + 1, o_2)) (by simp only; omega) ⟨by simp only; omega, by simp only; rw [sdC_succ, ← hv]; exact g_2⟩ ⟨rfl, rfl, rfl, rfl, rfl, rfl, rfl, rfl, rfl, trivial⟩ (fun w9 hs => (by dsimp only; rw [sdC_succ, ← hv]; exact ((hs.fewer 1 rfl).tail 2 rfl)))
          · have hv : (2 : Int) = sdA M C xs p.1 := by unfold sdA; rw [if_neg (by omega), if_neg (by have := of_decide_eq_false h4; omega)]
            refine ac_region (al_p (q_move rfl) (al_new (fun b => .slice (some ⟨b, 0, none⟩) 1 1) (r_buildSlice (.cons rfl .nil) (eqs_bs_apiTruth_1_0_ _ rfl)) rfl rfl rfl ?_))
            intro b7
            refine al_grow (z := 1) (bytes := 8) (zv := (.int .i64 0)) (o := p.2) (cs := (sdC M C xs p.1)) (vs := [.int .i64 2]) rfl rfl (.s (.s (.s (.s (.s (.z)))))) hgp (Sor.box (j := 0) rfl rfl rfl) Tryz.underlying56 (by kernel_rfl) rfl (by omega) (by decide) rfl rfl (fun o_3 g_3 => ?_)
            refine ⟨_, (.s (.s (.s (.s (.s (.z)))))), ?_⟩
            refine al_p (q_assign rfl) (al_end (aq_inN (aq_inN (aq_then ?_))))
            refine ac_region (al_p (q_move rfl) ?_)
            refine al_p (q_add rfl rfl (by omega)) (al_p (q_assign rfl) (al_end (aq_then ?_)))
            skip
            refine aq_round ((p.1 + 1, o_3)) (by simp only; omega) ⟨by simp only; omega, by simp only; rw [sdC_succ, ← hv]; exact g_3⟩ ⟨rfl, rfl, rfl, rfl, rfl, rfl, rfl, rfl, rfl, trivial⟩ (fun w9 hs => (by dsimp only; rw [sdC_succ, ← hv]; exact ((hs.fewer 1 rfl).tail 2 rfl)))
      · refine al_new (fun b => .pointer (some ⟨b, 0, none⟩)) (r_alloc Tryz.zeroValue52 rfl) rfl rfl rfl ?_
        intro b8
        refine al_end (ah_back hok1 hcl1 (fun w9 hs => ((hs.tail 1 rfl).front (.s (.s (.s (.z)))))) ?_)
        refine ah_one 7 rfl (by kernel_rfl) (fun hok4 hcl4 => ?_)
        refine al_call Tryz.call65 (.cons rfl (.cons rfl (.cons rfl (.cons rfl .nil)))) rfl rfl (fun w4 hs4 => ?_)
        refine (rflux_any R M Q C X nx cx xs (cellP M p.1) 1000000 _ (hM.below hs4.below) (hC.below hs4.below) (hS.below hs4.below) hf hX ht).mono ?_
        rintro e u4 ⟨rfl, hb_4⟩
        refine ⟨_, rfl, hb_4, ?_⟩
        clear hs4
        refine al_end (ah_back hok4 hcl4 (fun w9 hs => (((hs.fewer 1 rfl).tail 1 rfl).front (.s (.s (.s (.z)))))) ?_)
        refine ah_one 9 rfl (by kernel_rfl) (fun hok5 hcl5 => ?_)
        refine al_storeAll (i := 0) rfl rfl rfl rfl Tryz.sizeOf52 rfl rfl .k0 rfl (al_end (ah_last (by kernel_rfl) ?_))
        refine aq_then (ac_block (ac_seq (ac_region ?_)))
        refine al_p (q_fieldAddr 0 rfl Tryz.runUnderlying52 rfl Tryz.sizeOf3 (by decide) rfl) (al_p (q_load (i := 0) rfl rfl rfl Tryz.isAgg3) ?_)
        refine al_p (q_fieldAddr 1 rfl Tryz.runUnderlying52 rfl Tryz.sizeOf3 (by decide) rfl) (al_p (q_load (i := 1) rfl rfl rfl Tryz.isAgg3) (al_p (q_gtr rfl rfl) (al_p (q_assign rfl) (al_end (aq_then ?_)))))
        refine aq_keepL [2, 3, 4, 6, 7, 8, 10, 11, 12, 13, 26, 27, 28, 29, 32, 33, 34, 35, 36, 37, 38, 39, 43, 44, 45, 46, 47, 48] (.cons rfl (.cons rfl (.cons rfl (.cons rfl (.cons rfl (.cons rfl (.cons rfl (.cons rfl (.cons rfl (.cons rfl (.cons rfl (.cons rfl (.cons rfl (.cons rfl (.cons rfl (.cons rfl (.cons rfl (.cons rfl (.cons rfl (.cons rfl (.cons rfl (.cons rfl (.cons rfl (.cons rfl (.cons rfl (.cons rfl (.cons rfl (.cons rfl .nil)))))))))))))))))))))))))))) ?_
        refine ac_cond rfl (fun h5 => ?_) (fun h5 => ?_)
        · have hv : (1 : Int) = sdA M C xs p.1 := by unfold sdA; rw [if_pos (by have := of_decide_eq_true h5; omega)]
          refine ac_region (al_p (q_move rfl) (al_new (fun b => .slice (some ⟨b, 0, none⟩) 1 1) (r_buildSlice (.cons rfl .nil) (eqs_bs_apiTruth_1_0_ _ rfl)) rfl rfl rfl ?_))
          intro b9
          refine al_grow (z := 1) (bytes := 8) (zv := (.int .i64 0)) (o := p.2) (cs := (sdC M C xs p.1)) (vs := [.int .i64 1]) rfl rfl (.s (.s (.s (.s (.s (.z)))))) hgp (Sor.box (j := 0) rfl rfl rfl) Tryz.underlying56 (by kernel_rfl) rfl (by omega) (by decide) rfl rfl (fun o_4 g_4 => ?_)
          refine ⟨_, (.s (.s (.s (.s (.s (.z)))))), ?_⟩
          refine al_p (q_assign rfl) (al_end (aq_inN (aq_inN (aq_then ?_))))
          refine ac_region (al_p (q_move rfl) ?_)
          refine al_p (q_add rfl rfl (by omega)) (al_p (q_assign rfl) (al_end (aq_then ?_)))
          skip
          refine aq_round ((p.1 + 1, o_4)) (by simp only; omega) ⟨by simp only; omega, by simp only; rw [sdC_succ, ← hv]; exact g_4⟩ ⟨rfl, rfl, rfl, rfl, rfl, rfl, rfl, rfl, rfl, trivial⟩ (fun w9 hs => (by dsimp only; rw [sdC_succ, ← hv]; exact ((hs.fewer 1 rfl).tail 2 rfl)))
        · have hv3 := of_decide_eq_false h5
          refine ac_seq (ac_region ?_)
          refine al_p (q_fieldAddr 1 rfl Tryz.runUnderlying52 rfl Tryz.sizeOf3 (by decide) rfl) (al_p (q_load (i := 0) rfl rfl rfl Tryz.isAgg3) ?_)
          refine al_p (q_fieldAddr 0 rfl Tryz.runUnderlying52 rfl Tryz.sizeOf3 (by decide) rfl) (al_p (q_load (i := 1) rfl rfl rfl Tryz.isAgg3) (al_p (q_leq rfl rfl) (al_p (q_assign rfl) (al_end (aq_then ?_)))))
          refine ac_cond rfl (fun h6 => ?_) (fun h6 => ?_)
          · have hv : (0 : Int) = sdA M C xs p.1 := by unfold sdA; rw [if_neg (by omega), if_pos (by have := of_decide_eq_true h6; omega)]
            refine ac_region (al_p (q_move rfl) (al_new (fun b => .slice (some ⟨b, 0, none⟩) 1 1) (r_buildSlice (.cons rfl .nil) (eqs_bs_apiTruth_1_0_ _ rfl)) rfl rfl rfl ?_))
            intro b10
            refine al_grow (z := 1) (bytes := 8) (zv := (.int .i64 0)) (o := p.2) (cs := (sdC M C xs p.1)) (vs := [.int .i64 0]) rfl rfl (.s (.s (.s (.s (.s (.z)))))) hgp (Sor.box (j := 0) rfl rfl rfl) Tryz.underlying56 (by kernel_rfl) rfl (by omega) (by decide) rfl rfl (fun o_5 g_5 => ?_)
            refine ⟨_, (.s (.s (.s (.s (.s (.z)))))), ?_⟩
            refine al_p (q_assign rfl) (al_end (aq_inN (aq_inN (aq_then ?_))))
            refine ac_region (al_p (q_move rfl) ?_)
            refine al_p (q_add rfl rfl (by omega)) (al_p (q_assign rfl) (al_end (aq_then ?_)))
            skip
            refine aq_round ((p.1 + 1, o_5)) (by simp only; omega) ⟨by simp only; omega, by simp only; rw [sdC_succ, ← hv]; exact g_5⟩ ⟨rfl, rfl, rfl, rfl, rfl, rfl, rfl, rfl, rfl, trivial⟩ (fun w9 hs => (by dsimp only; rw [sdC_succ, ← hv]; exact ((hs.fewer 1 rfl).tail 2 rfl)))
          · have hv : (2 : Int) = sdA M C xs p.1 := by unfold sdA; rw [if_neg (by omega), if_neg (by have := of_decide_eq_false h6; omega)]
            refine ac_region (al_p (q_move rfl) (al_new (fun b => .slice (some ⟨b, 0, none⟩) 1 1) (r_buildSlice (.cons rfl .nil) (eqs_bs_apiTruth_1_0_ _ rfl)) rfl rfl rfl ?_))
            intro b11
            refine al_grow (z := 1) (bytes := 8) (zv := (.int .i64 0)) (o := p.2) (cs := (sdC M C xs p.1)) (vs := [.int .i64 2]) rfl rfl (.s (.s (.s (.s (.s (.z)))))) hgp (Sor.box (j := 0) rfl rfl rfl) Tryz.underlying56 (by kernel_rfl) rfl (by omega) (by decide) rfl rfl (fun o_6 g_6 => ?_)
            refine ⟨_, (.s (.s (.s (.s (.s (.z)))))), ?_⟩
            refine al_p (q_assign rfl) (al_end (aq_inN (aq_inN (aq_then ?_))))
            refine ac_region (al_p (q_move rfl) ?_)
            refine al_p (q_add rfl rfl (by omega)) (al_p (q_assign rfl) (al_end (aq_then ?_)))
            skip
            refine aq_round ((p.1 + 1, o_6)) (by simp only; omega) ⟨by simp only; omega, by simp only; rw [sdC_succ, ← hv]; exact g_6⟩ ⟨rfl, rfl, rfl, rfl, rfl, rfl, rfl, rfl, rfl, trivial⟩ (fun w9 hs => (by dsimp only; rw [sdC_succ, ← hv]; exact ((hs.fewer 1 rfl).tail 2 rfl)))
    · have hke : p.1 = cellN M := by have := of_decide_eq_false h2; omega
      refine ac_exit (aq_thenE (aq_thenE (aq_hit (aq_then ?_))))
      refine ac_seq (ac_region ?_)
      refine al_p (q_move rfl) (al_p (q_assign rfl) (al_p (q_assign rfl) (al_end (aq_then ?_))))
      refine ac_ret (ret2 Tryz.results26 rfl rfl (fun w9 hs => ?_))
      rw [hok]; unfold sdL; rw [if_pos (bnV_ok hok)]; exact OutT.ok (n := p.1) (by have h9 := hs.grown (enc := intCells) (o := p.2) (cs := sdC M C xs p.1) (zs := lst p.1 (sdA M C xs)) (fun _ => rfl) (fun y hy => by simp [hy]) hgp rfl (lst_length _ _); rw [hke] at h9 ⊢; exact h9) hs.below
end
end Go.Proofs.YtogcjgjhmlifgaaGreat
