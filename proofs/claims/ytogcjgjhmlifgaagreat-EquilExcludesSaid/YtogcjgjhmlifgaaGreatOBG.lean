import Derived.Test.YtogcjgjhmlifgaaGreatOAW
import Derived.Test.YtogcjgjhmlifgaaGreatOBF
import Derived.Test.YtogcjgjhmlifgaaGreatRows
import Derived.KernelRfl
import Derived.Laws.StructEq
namespace Go.Proofs.YtogcjgjhmlifgaaGreat
set_option linter.unusedVariables false
set_option linter.unusedSimpArgs false
section
open Go.RowKit
theorem fromL_drop {M : MachD} (hc : checkC M = 0) (p : PointD) : (fromL M (p.r, p.z)).drop (M.coils.length + M.shells.length) = lst (cellN M) (wgt M p) := by
  have hcn := cellN_eq hc
  refine List.ext_getElem? fun k => ?_
  rw [List.getElem?_drop]
  by_cases hk : k < cellN M
  · rw [lst_get _ hk, Nat.add_assoc, from_cell (M := M) (p := (p.r, p.z)) (k := k) (by omega)]; rfl
  · have hl := from_length M (p.r, p.z)
    rw [List.getElem?_eq_none (by unfold cellN at *; omega), List.getElem?_eq_none (by rw [lst_length]; omega)]
set_option maxRecDepth 100000 in
theorem rweights_any (R : MachR) (M : MachD) (p : PointD) (w : World) (hM : IsM w R M) (hc : checkC M = 0) : Calls Tryz.prog 103 #[(.agg (mCs R M).toArray), (.agg #[.int .i64 p.r, .int .i64 p.z])] w (fun e w' => ∃ A n c, e = .returned (.slice A n c) ∧ NewT 1 intCells w.heap.size w' A n c (lst (cellN M) (wgt M p)) ∧ Below w.heap.size w w') := by
  have n1 := hM.coils.1.symm
  have n2 := hM.shells.1.symm
  have hsd := sound_of hc
  have q1 := hsd.coils.1
  have q2 := hsd.shells.1
  have hl := from_length M (p.r, p.z)
  have hcn := cellN_eq hc
  refine calls_ax (vs := [(.agg (mCs R M).toArray), (.agg #[.int .i64 p.r, .int .i64 p.z])]) Tryz.func103 rfl rfl ?_
  refine ac_seq (ac_region ?_)
  refine al_new (fun b => .pointer (some ⟨b, 0, none⟩)) (r_box rfl rfl) rfl rfl rfl ?_
  intro b1
  refine al_new (fun b => .pointer (some ⟨b, 0, none⟩)) (r_box rfl rfl) rfl rfl rfl ?_
  intro b2
  refine al_p (q_assign rfl) (al_end (aq_then ?_))
  refine ac_seq (ac_draw 11 (by kernel_rfl) (by kernel_rfl) ?_)
  refine ah_t 0 (fun w9 hs => hs) rfl rfl (by kernel_rfl) (q_loadAll (i := 1) rfl rfl Tryz.isAgg29 Tryz.sizeOf29 rfl) (ah_t 1 (fun w9 hs => hs) rfl rfl (by kernel_rfl) (q_loadAll (i := 0) rfl rfl Tryz.isAgg36 Tryz.sizeOf36 rfl) ?_)
  refine ah_t 3 (fun w9 hs => hs) rfl rfl (by kernel_rfl) (q_fieldAddr 1 rfl Tryz.runUnderlying29 rfl Tryz.sizeOf22 (by decide) rfl) (ah_t 4 (fun w9 hs => hs) rfl rfl (by kernel_rfl) (q_load (i := 1) rfl rfl rfl Tryz.isAgg22) (ah_t 5 (fun w9 hs => hs) rfl rfl (by kernel_rfl) (q_lenS rfl Tryz.runUnderlying22) ?_))
  refine ah_t 6 (fun w9 hs => hs) rfl rfl (by kernel_rfl) (q_fieldAddr 2 rfl Tryz.runUnderlying29 rfl Tryz.sizeOf23 (by decide) rfl) (ah_t 7 (fun w9 hs => hs) rfl rfl (by kernel_rfl) (q_load (i := 1) rfl rfl rfl Tryz.isAgg23) (ah_t 8 (fun w9 hs => hs) rfl rfl (by kernel_rfl) (q_lenS rfl Tryz.runUnderlying23) ?_))
  refine ah_t 9 (fun w9 hs => hs) rfl rfl (by kernel_rfl) (q_add rfl rfl (by omega)) (ah_one 2 rfl (by kernel_rfl) (fun hok1 hcl1 => ?_))
  refine al_call Tryz.call92 (.cons rfl (.cons rfl .nil)) rfl rfl (fun w1 hs1 => ?_)
  refine (rfrom9p R M p _ (hM.below hs1.below) hc).mono ?_
  rintro e u1 ⟨A7, c7, rfl, N7, hb_1⟩
  obtain ⟨b71, o71, hA7, hlt7, hget7⟩ := N7.isT.2 (by omega)
  have hle7 := N7.le.1
  refine ⟨_, rfl, hb_1, ?_⟩
  clear hs1
  refine al_end (ah_back hok1 hcl1 (fun w9 hs => (hs.fewer 1 rfl)) ?_)
  refine ah_t 10 (fun w9 hs => (hs.fewer 1 rfl)) rfl rfl (by kernel_rfl) (q_fromA (lo := R.la + R.lb) hA7 rfl rfl (by omega) (by omega) (by omega) (by omega) Tryz.underlying30 Tryz.sizeOf3) (ah_one 11 rfl (by kernel_rfl) (fun hok2 hcl2 => ?_))
  refine al_p (q_assign rfl) (al_end (ah_last (by kernel_rfl) ?_))
  refine aq_then (ac_ret (ret1 Tryz.results103 rfl (fun w9 hs => ?_)))
  have h9 := hs.newT2 (.head _) N7
  have h8 := h9.isT
  rw [hA7] at h8
  have h10 := h8.drop (R.la + R.lb)
  rw [n1, n2, fromL_drop hc, ← n1, ← n2] at h10
  exact ⟨_, _, _, rfl, ⟨h10, fun b o e => by cases e; exact h9.new _ _ hA7, by have := N7.le; omega⟩, hs.below⟩
theorem rcellK (R : MachR) (M : MachD) (k : Nat) (w : World) (hM : IsM w R M) (hc : checkC M = 0) (hk : k < cellN M) : Calls Tryz.prog 102 #[.agg (mCs R M).toArray, .int .i64 (k : Int)] w (Ret (.tuple #[.agg #[.int .i64 (cellP M k).r, .int .i64 (cellP M k).z], .int .i64 0]) w) := by
  have h : Calls Tryz.prog 102 #[.agg (mCs R M).toArray, .int .i64 (k : Int)] w (Ret (.tuple #[.agg #[.int .i64 (cellL M k).1, .int .i64 (cellL M k).2.1], .int .i64 (cellL M k).2.2]) w) := rcell9_any R M k w hM
  have hcn := cellN_eq hc
  have e : cellL M k = (cellR M.grid (k : Int), cellZ M.grid (k : Int), 0) := by unfold cellL; rw [if_pos hc, if_pos (wthn_iff.2 (by omega))]
  rw [e] at h
  exact h
def clC (M : MachD) (k : Nat) : List Value := (lst k (cellP M)).flatMap PointD.cells
theorem clC_succ (M : MachD) (k : Nat) : clC M (k + 1) = clC M k ++ PointD.cells (cellP M k) := by unfold clC; rw [lst_snoc, List.flatMap_append]; simp
def bnV (M : MachD) (C : CurD) (xs : List SpanD) : Bool := validC M C && boxB M 1000000 xs
def bnE (M : MachD) (C : CurD) (xs : List SpanD) : Int := if bnV M C xs = true then 0 else 1
theorem eqq_bs_apiPoint_1_0_ (c0_0 c0_1 : Value) : ∀ w, (Instr.buildSlice 24 1 #[(0, .agg #[c0_0, c0_1])]).run Tryz.prog w = .ok (.slice (some ⟨w.heap.size, 0, none⟩) 1 1) (w.alloc (.cells [c0_0, c0_1].toArray 36)) := by
  intro w; (simp [Instr.buildSlice, Instr.fill, cells_agg, newRow, Tryz.runUnderlying24, Tryz.zeroValue36, Tryz.sizeOf36] <;> (rw [(by kernel_rfl : Array.range 2 = #[0, 1])]; simp [Value.cells]))
set_option maxRecDepth 100000 in
theorem rcells5_any (R : MachR) (M : MachD) (w : World) (hM : IsM w R M) (hc : checkC M = 0) : Calls Tryz.prog 64 #[(.agg (mCs R M).toArray)] w (fun e w' => ∃ A c, e = .returned (.slice A (cellN M) c) ∧ NewT 2 PointD.cells w.heap.size w' A (cellN M) c (lst (cellN M) (cellP M)) ∧ Below w.heap.size w w') := by
  have hcn := cellN_eq hc
  refine calls_ax (vs := [(.agg (mCs R M).toArray)]) Tryz.func64 rfl rfl ?_
  refine ac_seq (ac_region ?_)
  refine al_new (fun b => .pointer (some ⟨b, 0, none⟩)) (r_box rfl rfl) rfl rfl rfl ?_
  intro b1
  refine al_p (q_assign rfl) (al_end (aq_then ?_))
  refine ac_seq (ac_region ?_)
  refine al_p (q_assign rfl) (al_end (aq_then ?_))
  refine ac_seq (ac_seq (ac_region ?_))
  refine al_p (q_assign rfl) (al_end (aq_then ?_))
  refine ac_block ?_
  refine ac_loop (β := Nat × Gr) (fun p => p.1 ≤ cellN M ∧ gok p.2 p.1 2 (clC M p.1)) (fun p => [(1, (.pointer (some ⟨b1, 0, none⟩))), (2, (.slice none 0 0)), (3, (.slice (gA p.2) p.1 (gC p.2))), (4, (.int .i64 (p.1 : Int)))]) (fun _ => _) (fun p => (b1, _) :: (gt p.2 (clC M p.1) ++ ([]))) (fun p => cellN M - p.1) (0, none) ⟨Nat.zero_le _, gok.none 2⟩ ⟨rfl, rfl, rfl, rfl, trivial⟩ (fun w9 hs => (by rw [show gt none (clC M 0) = [] from rfl, List.nil_append]; exact hs)) (fun p hF1 => ?_)
  obtain ⟨hpx, hgp⟩ := hF1
  refine ac_seq (ac_seq (ac_region ?_))
  refine al_p (q_move rfl) ?_
  refine al_p (q_fieldAddr 4 rfl Tryz.runUnderlying29 rfl Tryz.sizeOf26 (by decide) rfl) ?_
  refine al_p (q_fieldAddr 6 rfl Tryz.runUnderlying26 rfl Tryz.sizeOf3 (by decide) rfl) (al_p (q_load (i := 0) rfl rfl rfl Tryz.isAgg3) ?_)
  refine al_p (q_fieldAddr 4 rfl Tryz.runUnderlying29 rfl Tryz.sizeOf26 (by decide) rfl) ?_
  refine al_p (q_fieldAddr 7 rfl Tryz.runUnderlying26 rfl Tryz.sizeOf3 (by decide) rfl) (al_p (q_load (i := 0) rfl rfl rfl Tryz.isAgg3) ?_)
  refine al_p (q_mul rfl rfl (by omega)) (al_p (q_lss rfl rfl) (al_end (aq_then ?_)))
  refine ac_cond rfl (fun h1 => ?_) (fun h1 => ?_)
  · have hkn : p.1 < cellN M := by have := of_decide_eq_true h1; omega
    refine ac_skip (aq_then (ac_seq (ac_block (ac_seq (ac_region ?_)))))
    refine al_p (q_loadAll (i := 0) rfl rfl Tryz.isAgg29 Tryz.sizeOf29 rfl) (al_p (q_move rfl) (al_call Tryz.call102 (.cons rfl (.cons rfl .nil)) rfl rfl (fun w1 hs1 => ?_)))
    refine (rcellK R M p.1 _ (hM.below hs1.below) hc (by omega)).mono ?_
    rintro e u1 ⟨rfl, hb_1⟩
    refine ⟨_, rfl, hb_1, ?_⟩
    clear hs1
    refine al_p (q_move rfl) (al_p (q_extract rfl rfl) (al_p (q_extract rfl rfl) (al_new (fun b => .pointer (some ⟨b, 0, none⟩)) (r_alloc Tryz.zeroValue36 rfl) rfl rfl rfl ?_)))
    intro b2
    refine al_storeAll (i := 0) rfl rfl rfl rfl Tryz.sizeOf36 rfl rfl .k0 rfl (al_p (q_assign rfl) (al_end (aq_then ?_)))
    refine ac_region (al_p (q_move rfl) (al_p (q_loadAll (i := 0) rfl rfl Tryz.isAgg36 Tryz.sizeOf36 rfl) (al_new (fun b => .slice (some ⟨b, 0, none⟩) 1 1) (r_buildSlice (.cons rfl .nil) (eqq_bs_apiPoint_1_0_ _ _)) rfl rfl rfl ?_)))
    intro b3
    refine al_grow (z := 2) (bytes := 16) (zv := (.agg #[.int .i64 0, .int .i64 0])) (o := p.2) (cs := (clC M p.1)) (vs := [.int .i64 (cellP M p.1).r, .int .i64 (cellP M p.1).z]) rfl rfl (.s (.s (.s (.z)))) hgp (Sor.box (j := 0) rfl rfl rfl) Tryz.underlying24 (by kernel_rfl) rfl (by omega) (by decide) rfl rfl (fun o_1 g_1 => ?_)
    refine ⟨_, (.s (.s (.s (.z)))), ?_⟩
    refine al_p (q_assign rfl) (al_end (aq_inN (aq_then (ac_region ?_))))
    refine al_p (q_move rfl) ?_
    refine al_p (q_add rfl rfl (by omega)) (al_p (q_assign rfl) (al_end (aq_then ?_)))
    skip
    refine aq_round ((p.1 + 1, o_1)) (by simp only; omega) ⟨by simp only; omega, by simp only; rw [clC_succ]; exact g_1⟩ ⟨rfl, rfl, rfl, rfl, trivial⟩ (fun w9 hs => (by dsimp only; rw [clC_succ]; exact ((hs.fewer 1 rfl).tail 2 rfl)))
  · have hke : p.1 = cellN M := by have := of_decide_eq_false h1; omega
    refine ac_exit (aq_thenE (aq_thenE (aq_hit (aq_then ?_))))
    refine ac_seq (ac_region ?_)
    refine al_p (q_move rfl) (al_p (q_assign rfl) (al_end (aq_then ?_)))
    refine ac_ret (ret1 Tryz.results64 rfl (fun w9 hs => ?_))
    exact ⟨gA p.2, gC p.2, by rw [hke], by have h9 := hs.grown (enc := PointD.cells) (o := p.2) (cs := clC M p.1) (zs := lst p.1 (cellP M)) (fun _ => rfl) (fun y hy => by simp [hy]) hgp rfl (lst_length _ _); rw [hke] at h9; exact h9, hs.below⟩
end
section
open Go.RowKit
end
end Go.Proofs.YtogcjgjhmlifgaaGreat
