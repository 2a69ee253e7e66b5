import Derived.Test.YtapldonpflgnfaaGreatDoorLAQ
import Derived.Test.YtapldonpflgnfaaGreatDoorLAR
import Derived.Test.YtapldonpflgnfaaGreatDoorLBL
import Derived.Test.YtapldonpflgnfaaGreatDoorLBM
import Derived.Test.YtapldonpflgnfaaGreatDoorRows
import Derived.KernelRfl
import Derived.Laws.StructEq
namespace Go.Proofs.YtapldonpflgnfaaGreatDoor
set_option linter.unusedVariables false
set_option linter.unusedSimpArgs false
section
open Go.RowKit
theorem clF_eq {M : MachD} {C : CurD} {zs : List SpanD} {cell : Int} {k : Nat} (h : k < M.sensors.length) : clF M (bgL M C) zs cell k = ⟨(allowL (zs.getD k ⟨0, 0⟩).lo (zs.getD k ⟨0, 0⟩).hi (backL M C (k : Int)).1 (respL M (k : Int) cell).1).1, (allowL (zs.getD k ⟨0, 0⟩).lo (zs.getD k ⟨0, 0⟩).hi (backL M C (k : Int)).1 (respL M (k : Int) cell).1).2⟩ := by
 unfold clF
 rw [List.getD_eq_getElem?_getD (l := bgL M C), bgL_get h]
 rfl
def goInv (CL : List SpanD) (j : Nat) (lo hi : Int) (ok : Bool) : Prop := commL CL = if ok = true then commGo lo hi (CL.drop j) else (0, 0, false)
theorem goInv.zero (CL : List SpanD) : goInv CL 0 0 1000000 true := rfl
theorem goInv.no {CL : List SpanD} {j j' : Nat} {lo hi lo' hi' : Int} (h : goInv CL j lo hi false) : goInv CL j' lo' hi' false := h
theorem meet_bad {a b c d : Int} (h : vld c d = false) : (meetL a b c d).2.2 ≠ 0 := by unfold meetL; rw [h, Bool.and_false, if_neg (by decide)]; decide
theorem goInv.bad {CL : List SpanD} {j j' : Nat} {lo hi lo' hi' : Int} {x : SpanD} (h : goInv CL j lo hi true) (hx : CL[j]? = some x) (hb : vld x.lo x.hi = false) : goInv CL j' lo' hi' false := by
 unfold goInv at h ⊢
 rw [if_pos rfl, commGo_drop hx, if_neg (meet_bad hb)] at h
 exact h
theorem goInv.step {CL : List SpanD} {j : Nat} {lo hi : Int} {x : SpanD} (h : goInv CL j lo hi true) (hx : CL[j]? = some x) (he : (meetL lo hi x.lo x.hi).2.2 = 0) : goInv CL (j + 1) (meetL lo hi x.lo x.hi).1 (meetL lo hi x.lo x.hi).2.1 (decide ((meetL lo hi x.lo x.hi).2.2 = 0)) := by
 unfold goInv at h ⊢
 rw [if_pos rfl, commGo_drop hx, if_pos he] at h
 rw [he]; exact h
theorem goInv.stop {CL : List SpanD} {j j' : Nat} {lo hi lo' hi' : Int} {x : SpanD} (h : goInv CL j lo hi true) (hx : CL[j]? = some x) (he : ¬ (meetL lo hi x.lo x.hi).2.2 = 0) : goInv CL j' lo' hi' (decide ((meetL lo hi x.lo x.hi).2.2 = 0)) := by
 unfold goInv at h ⊢
 rw [if_pos rfl, commGo_drop hx, if_neg he] at h
 rw [decide_eq_false he]; exact h
theorem goInv.end {CL : List SpanD} {j : Nat} {lo hi : Int} {ok : Bool} (h : goInv CL j lo hi ok) (hj : CL.length ≤ j) : (commL CL).2.2 = ok ∧ (ok = true → (commL CL).1 = lo ∧ (commL CL).2.1 = hi) := by
 unfold goInv at h
 rw [List.drop_eq_nil_of_le hj] at h
 cases ok
 ·rw [h]; exact ⟨rfl, fun e => by cases e⟩
 ·rw [h]; exact ⟨rfl, fun _ => ⟨rfl, rfl⟩⟩
theorem sxd_bl_apiSpan_0_1 (a0 a1 : Value) (ha0 : a0.oneCell' = true) (ha1 : a1.oneCell' = true) : ∀ w, (Instr.build 41 #[(0, a0), (1, a1)]).run Tryz.prog w = .ok (.agg #[a0, a1]) w := by
 have ea0 : a0.cells = #[a0] := cells_one ha0
 have ea1 : a1.cells = #[a1] := cells_one ha1
 intro w; simp [Instr.build, Instr.fill, cells_agg, Tryz.runUnderlying41, Tryz.zeroValue41, Tryz.sizeOf3, ea0, ea1]
theorem sxd_bl_apiCandidate_0_1 (a0 c1_0 c1_1 : Value) (ha0 : a0.oneCell' = true) : ∀ w, (Instr.build 73 #[(0, a0), (1, .agg #[c1_0, c1_1])]).run Tryz.prog w = .ok (.agg #[a0, c1_0, c1_1]) w := by
 have ea0 : a0.cells = #[a0] := cells_one ha0
 intro w; simp [Instr.build, Instr.fill, cells_agg, Tryz.runUnderlying73, Tryz.zeroValue73, Tryz.sizeOf3, Tryz.sizeOf41, ea0]
theorem sxd_bs_apiCandidate_1_0_ (c0_0 c0_1 c0_2 : Value) : ∀ w, (Instr.buildSlice 49 1 #[(0, .agg #[c0_0, c0_1, c0_2])]).run Tryz.prog w = .ok (.slice (some ⟨w.heap.size, 0, none⟩) 1 1) (w.alloc (.cells [c0_0, c0_1, c0_2].toArray 73)) := by
 intro w; (simp [Instr.buildSlice, Instr.fill, cells_agg, newRow, Tryz.runUnderlying49, Tryz.zeroValue73, Tryz.sizeOf73] <;> (rw [(by kernel_rfl : Array.range 3 = #[0, 1, 2])]; simp [Value.cells]))
set_option maxRecDepth 100000 in
theorem rcand4_any (R : MachR) (M : MachD) (Q : CurR) (C : CurD) (F : Option Addr) (nf cf : Nat) (zs : List SpanD) (w : World) (hM : IsM w R M) (hC : IsC w Q C) (hF : IsT 2 SpanD.cells w F nf zs) (hn : nf ≤ 1000000000000000) : Calls Tryz.prog 16 #[(.agg (machCells R M)), Q.v, (.slice F nf cf)] w (OutT 3 pairCells w (candE M C zs) (candZ M C zs)) := by
 refine calls_ax (vs := [(.agg (machCells R M)), Q.v, (.slice F nf cf)]) Tryz.func16 rfl rfl ?_
 refine ac_seq (ac_region ?_)
 refine al_new (fun b => .pointer (some ⟨b, 0, none⟩)) (r_box rfl rfl) rfl rfl rfl ?_
 intro b1
 refine al_new (fun b => .pointer (some ⟨b, 0, none⟩)) (r_box rfl rfl) rfl rfl rfl ?_
 intro b2
 refine al_p (q_assign rfl) (al_p (q_assign rfl) (al_end (aq_then ?_)))
 refine ac_seq (ac_seq (ac_region ?_))
 refine al_p (q_loadAll (i := 1) rfl rfl Tryz.isAgg29 Tryz.sizeOf29 rfl) (al_p (q_loadAll (i := 0) rfl rfl Tryz.isAgg32 Tryz.sizeOf32 rfl) (al_p (q_move rfl) (al_call Tryz.call32 (.cons rfl (.cons rfl (.cons rfl .nil))) rfl rfl (fun w1 hs1 => ?_))))
 refine (rready4_any R M Q C F nf cf zs _ (hM.below hs1.below) (hC.below hs1.below) (hF.below hs1.below) hn).mono ?_
 rintro e u1 ⟨rfl, hb_1⟩
 refine ⟨_, rfl, hb_1, ?_⟩
 clear hs1
 refine al_p (q_not rfl) (al_end (aq_then ?_))
 refine ac_cond rfl (fun h1 => ?_) (fun h1 => ?_)
 ·have hE : explB M C zs = false := by simpa using h1
  refine ac_seq (ac_region ?_)
  refine al_p (q_assign rfl) (al_p (q_assign rfl) (al_end (aq_then ?_)))
  refine ac_ret (aq_thenR (ret2 Tryz.results16 rfl rfl (fun w9 hs => ?_)))
  unfold candE candZ; rw [if_neg (by rw [hE]; decide), if_neg (by rw [hE]; decide)]; exact OutT.nil hs.below
 ·have he : explB M C zs = true := by simpa using h1
  have hexp := explB_iff.1 he
  obtain ⟨hv, hzl, hzs⟩ := hexp
  have hvc := fit2_iff.2 hv
  have hs0 := sound_of hv.check
  have hg := cells_fine hs0.grid
  have hsn := hs0.sensors.1
  have hld := hM.sensors.1
  have hnz := hF.1
  have hcp := hv.plasma.1
  have qc := hC.plasma.1
  have hkc := hC.kc
  have hcn : cellsN M = M.grid.nr * M.grid.nz := by simp [cellsN, hv.check]
  refine ac_skip (aq_then (ac_seq (ac_region ?_)))
  refine al_p (q_loadAll (i := 1) rfl rfl Tryz.isAgg29 Tryz.sizeOf29 rfl) (al_p (q_loadAll (i := 0) rfl rfl Tryz.isAgg32 Tryz.sizeOf32 rfl) (al_call Tryz.call35 (.cons rfl (.cons rfl .nil)) rfl rfl (fun w2 hs2 => ?_)))
  refine (rtable_any R M Q C _ (hM.below hs2.below) (hC.below hs2.below) hv).mono ?_
  rintro e u2 ⟨A_t, c_t, B_t, d_t, rw_t, rfl, N_t, hb_2⟩
  refine ⟨_, rfl, hb_2, ?_⟩
  clear hs2
  refine al_new (fun b => .pointer (some ⟨b, 0, none⟩)) (r_alloc Tryz.zeroValue91 rfl) rfl rfl rfl ?_
  intro b3
  refine al_storeAll (i := 0) rfl rfl rfl rfl Tryz.sizeOf91 rfl rfl .k0 rfl (al_end (aq_then ?_))
  refine ac_seq (ac_region ?_)
  refine al_p (q_assign rfl) (al_end (aq_then ?_))
  refine ac_seq (ac_seq (ac_region ?_))
  refine al_p (q_assign rfl) (al_end (aq_then ?_))
  refine ac_block ?_
  refine ac_loop (β := Nat × Gr × List Value) (fun k => k.1 ≤ (M.grid.nr * M.grid.nz).toNat ∧ gok k.2.1 (candU M C zs k.1).length 3 k.2.2 ∧ k.2.2 = (candU M C zs k.1).flatMap pairCells) (fun k => [(2, (.slice F nf cf)), (3, (.pointer (some ⟨b1, 0, none⟩))), (6, (.slice none 0 0)), (7, (.int .i64 0)), (8, (.pointer (some ⟨b3, 0, none⟩))), (9, (.slice (gA k.2.1) (candU M C zs k.1).length (gC k.2.1))), (10, (.int .i64 (k.1 : Int)))]) (fun _ => _) (fun k => (b3, _) :: (b2, _) :: (b1, _) :: (gt k.2.1 k.2.2 ++ ([]))) (fun k => (M.grid.nr * M.grid.nz).toNat - k.1) (0, none, []) ⟨by simp, gok.none 3, rfl⟩ ⟨rfl, rfl, rfl, rfl, rfl, rfl, rfl, trivial⟩ (fun w9 hs => (by rw [show gt none [] = [] from rfl, List.nil_append]; exact hs)) (fun k hF1 => ?_)
  obtain ⟨hla, hgk, hcs⟩ := hF1
  have htl := candU_len M C zs k.1
  refine ac_seq (ac_seq (ac_region ?_))
  refine al_p (q_move rfl) (al_p (q_loadAll (i := 2) rfl rfl Tryz.isAgg29 Tryz.sizeOf29 rfl) (al_call Tryz.call34 (.cons rfl .nil) rfl rfl (fun w3 hs3 => ?_)))
  refine (rcellsN_any R M _ (hM.below hs3.below)).mono ?_
  rintro e u3 ⟨rfl, hb_3⟩
  refine ⟨_, rfl, hb_3, ?_⟩
  clear hs3
  refine al_p (q_lss rfl rfl) (al_end (aq_then ?_))
  refine ac_cond rfl (fun h2 => ?_) (fun h2 => ?_)
  ·have hkl : k.1 < (M.grid.nr * M.grid.nz).toNat := by have := of_decide_eq_true h2; omega
   refine ac_skip (aq_then (ac_seq (ac_block (ac_seq (ac_region ?_)))))
   refine al_p (q_build (.cons rfl (.cons rfl .nil)) (sxd_bl_apiSpan_0_1 _ _ rfl rfl)) (al_new (fun b => .pointer (some ⟨b, 0, none⟩)) (r_alloc Tryz.zeroValue41 rfl) rfl rfl rfl ?_)
   intro b4
   refine al_storeAll (i := 0) rfl rfl rfl rfl Tryz.sizeOf41 rfl rfl .k0 rfl (al_end (aq_then ?_))
   refine ac_seq (ac_region ?_)
   refine al_p (q_assign rfl) (al_end (aq_then ?_))
   refine ac_seq (ac_seq (ac_region ?_))
   refine al_p (q_assign rfl) (al_end (aq_then ?_))
   refine ac_block (ac_loop (β := Nat × Int × Int × Bool) (fun y => y.1 ≤ nf ∧ goInv (clL M (bgL M C) zs (k.1 : Int)) y.1 y.2.1 y.2.2.1 y.2.2.2) (fun y => [(2, (.slice F nf cf)), (3, (.pointer (some ⟨b1, 0, none⟩))), (6, (.slice none 0 0)), (7, (.int .i64 0)), (8, (.pointer (some ⟨b3, 0, none⟩))), (9, (.slice (gA k.2.1) (candU M C zs k.1).length (gC k.2.1))), (10, (.int .i64 (k.1 : Int))), (11, (.pointer (some ⟨b4, 0, none⟩))), (12, (.bool y.2.2.2)), (13, (.int .i64 (y.1 : Int))), (26, (.int .i64 (k.1 : Int))), (27, (.agg (machCells R M))), (28, (.int .i64 (cellsN M)))]) (fun _ => _) (fun y => (b4, .cells [.int .i64 y.2.1, .int .i64 y.2.2.1]) :: (b3, _) :: (b2, _) :: (b1, _) :: (gt k.2.1 k.2.2 ++ ([]))) (fun y => nf - y.1) (0, 0, 1000000, true) ⟨by simp, goInv.zero _⟩ ⟨rfl, rfl, rfl, rfl, rfl, rfl, rfl, rfl, rfl, rfl, rfl, rfl, rfl, trivial⟩ (fun w9 hs => hs) (fun y hF2 => ?_))
   obtain ⟨hyl, hgi⟩ := hF2
   refine ac_seq (ac_seq (ac_region ?_))
   refine al_p (q_move rfl) (al_p (q_move rfl) (al_p (q_lenS rfl Tryz.runUnderlying33) (al_p (q_lss rfl rfl) (al_end (aq_then ?_)))))
   refine ac_cond rfl (fun h3 => ?_) (fun h3 => ?_)
   ·have hyk : y.1 < nf := by have := of_decide_eq_true h3; omega
    refine ac_skip (aq_then (ac_seq (ac_block (ac_seq ?_))))
    obtain ⟨b_a, o_a, hA_a, hlt_a, hget_a⟩ := N_t.bg.isT.2 (by omega)
    have hx_a : (bgL M C)[y.1]? = some (backL M C (y.1 : Int)).1 := by rw [bgL_get (by omega)]
    obtain ⟨b_b, o_b, hA_b, hlt_b, hget_b⟩ := N_t.out.isT.2 (by omega)
    obtain ⟨rr, hrr⟩ : ∃ rr, rw_t[y.1]? = some rr := ⟨_, List.getElem?_eq_getElem (by rw [N_t.out.isT.1]; omega)⟩
    have N_c := N_t.row y.1 rr hrr
    obtain ⟨b_c, o_c, hA_c, hlt_c, hget_c⟩ := N_c.isT.2 (by omega)
    have hx_c : (respRow M (M.grid.nr * M.grid.nz).toNat y.1)[k.1]? = some (respL M (y.1 : Int) (k.1 : Int)).1 := by rw [respRow_get (by omega)]
    obtain ⟨b11, o11, hA1, hlt1, hget1⟩ := hF.2 (by omega)
    have hx1 := getD_get (l := zs) (d := ⟨0, 0⟩) (k := y.1) (by omega)
    have hcl : (clL M (bgL M C) zs (k.1 : Int))[y.1]? = some (clF M (bgL M C) zs (k.1 : Int) y.1) := clL_get (by omega)
    rw [clF_eq (by omega)] at hcl
    refine ac_drawF 23 (.s (.s (.s (.s .z)))) (by kernel_rfl) (by kernel_rfl) ?_
    refine ah_t 0 (fun w9 hs => (hs.front (.s (.s (.s (.s (.z))))))) rfl rfl (by kernel_rfl) (q_fieldAddr 0 rfl Tryz.runUnderlying91 rfl Tryz.sizeOf30 (by decide) rfl) (ah_t 1 (fun w9 hs => (hs.front (.s (.s (.s (.s (.z))))))) rfl rfl (by kernel_rfl) (q_load (i := 1) rfl rfl rfl Tryz.isAgg30) (ah_t 2 (fun w9 hs => (hs.front (.s (.s (.s (.s (.z))))))) rfl rfl (by kernel_rfl) (q_move rfl) ?_))
    refine ah_t 3 (fun w9 hs => (hs.front (.s (.s (.s (.s (.z))))))) rfl rfl (by kernel_rfl) (q_indexAddrA (i := y.1) (o_a + y.1 * 1 + 0) hA_a rfl rfl rfl (by omega) Tryz.runUnderlying30 Tryz.sizeOf3 rfl) (ah_t 4 (fun w9 hs => (hs.front (.s (.s (.s (.s (.z))))))) rfl rfl (by kernel_rfl) (q_loadX rfl Tryz.isAgg3 (fun w9 hs => (hs.cellOf (.tail _ (.head _)) (N_t.bg.new _ _ hA_a) hlt_a (hget_a y.1 _ hx_a 0 _ rfl)))) ?_)
    refine ah_t 5 (fun w9 hs => (hs.front (.s (.s (.s (.s (.z))))))) rfl rfl (by kernel_rfl) (q_fieldAddr 1 rfl Tryz.runUnderlying91 rfl Tryz.sizeOf89 (by decide) rfl) (ah_t 6 (fun w9 hs => (hs.front (.s (.s (.s (.s (.z))))))) rfl rfl (by kernel_rfl) (q_load (i := 1) rfl rfl rfl Tryz.isAgg89) (ah_t 7 (fun w9 hs => (hs.front (.s (.s (.s (.s (.z))))))) rfl rfl (by kernel_rfl) (q_move rfl) ?_))
    refine ah_t 8 (fun w9 hs => (hs.front (.s (.s (.s (.s (.z))))))) rfl rfl (by kernel_rfl) (q_indexAddrA (i := y.1) (o_b + y.1 * 1 + 0) hA_b rfl rfl rfl (by omega) Tryz.runUnderlying89 Tryz.sizeOf30 rfl) (ah_t 9 (fun w9 hs => (hs.front (.s (.s (.s (.s (.z))))))) rfl rfl (by kernel_rfl) (q_loadX rfl Tryz.isAgg30 (fun w9 hs => (hs.cellOf (.tail _ (.head _)) (N_t.out.new _ _ hA_b) hlt_b (hget_b y.1 _ hrr 0 _ rfl)))) (ah_t 10 (fun w9 hs => (hs.front (.s (.s (.s (.s (.z))))))) rfl rfl (by kernel_rfl) (q_move rfl) ?_))
    refine ah_t 11 (fun w9 hs => (hs.front (.s (.s (.s (.s (.z))))))) rfl rfl (by kernel_rfl) (q_indexAddrA (i := k.1) (o_c + k.1 * 1 + 0) hA_c rfl rfl rfl (by omega) Tryz.runUnderlying30 Tryz.sizeOf3 rfl) (ah_t 12 (fun w9 hs => (hs.front (.s (.s (.s (.s (.z))))))) rfl rfl (by kernel_rfl) (q_loadX rfl Tryz.isAgg3 (fun w9 hs => (hs.cellOf (.tail _ (.head _)) (N_c.new _ _ hA_c) hlt_c (hget_c k.1 _ hx_c 0 _ rfl)))) (ah_t 13 (fun w9 hs => (hs.front (.s (.s (.s (.s (.z))))))) rfl rfl (by kernel_rfl) (q_move rfl) (ah_t 14 (fun w9 hs => (hs.front (.s (.s (.s (.s (.z))))))) rfl rfl (by kernel_rfl) (q_move rfl) ?_)))
    refine ah_t 15 (fun w9 hs => (hs.front (.s (.s (.s (.s (.z))))))) rfl rfl (by kernel_rfl) (q_indexAddrA (i := y.1) (o11 + y.1 * 2 + 0) hA1 rfl rfl rfl (by omega) Tryz.runUnderlying33 Tryz.sizeOf41 rfl) (ah_t 16 (fun w9 hs => (hs.front (.s (.s (.s (.s (.z))))))) rfl rfl (by kernel_rfl) (q_loadXs (SpanD.cells (zs.getD y.1 ⟨0, 0⟩)) rfl Tryz.isAgg41 Tryz.sizeOf41 (fun w9 hs j9 v9 h9 => by rw [addr_add]; exact (hs.below.cell (p := ⟨_, _, none⟩) hlt1).trans ((hget1 y.1 _ hx1) j9 v9 h9)) rfl) ?_)
    refine ah_two 17 21 rfl rfl  (by kernel_rfl) (fun hok1 hcl1 => ?_) (fun hok1 hcl1 => ?_)
    ·refine al_call Tryz.call36 (.cons rfl (.cons rfl (.cons rfl .nil))) rfl rfl (fun w4 hs4 => ?_)
     refine (rallowed4_any (zs.getD y.1 ⟨0, 0⟩).lo (zs.getD y.1 ⟨0, 0⟩).hi (backL M C (y.1 : Int)).1 (respL M (y.1 : Int) (k.1 : Int)).1 _ (hzs _ (List.mem_of_getElem? hx1)) (backL_bd M C _).1 (backL_bd M C _).2 (respL_bd M _ _).1 (respL_bd M _ _).2).mono ?_
     rintro e u4 ⟨xa, ya, rfl, ok_, hb_4⟩
     refine ⟨_, rfl, hb_4, ?_⟩
     clear hs4
     refine al_end (ah_back hok1 hcl1 (fun w9 hs => ((hs.fewer 1 rfl).front (.s (.s (.s (.s (.z))))))) ?_)
     refine ah_t 18 (fun w9 hs => ((hs.fewer 1 rfl).front (.s (.s (.s (.s (.z))))))) rfl rfl (by kernel_rfl) (q_move rfl) (ah_t 19 (fun w9 hs => ((hs.fewer 1 rfl).front (.s (.s (.s (.s (.z))))))) rfl rfl (by kernel_rfl) (q_extract rfl rfl) (ah_t 20 (fun w9 hs => ((hs.fewer 1 rfl).front (.s (.s (.s (.s (.z))))))) rfl rfl (by kernel_rfl) (q_extract rfl rfl) (ah_one 21 rfl (by kernel_rfl) (fun hok2 hcl2 => ?_))))
     refine al_new (fun b => .pointer (some ⟨b, 0, none⟩)) (r_alloc Tryz.zeroValue41 rfl) rfl rfl rfl ?_
     intro b5
     refine al_end (ah_back hok2 hcl2 (fun w9 hs => (((hs.fewer 1 rfl).tail 1 rfl).front (.s (.s (.s (.s (.z))))))) ?_)
     refine ah_one 22 rfl (by kernel_rfl) (fun hok3 hcl3 => ?_)
     refine al_storeAll (i := 0) rfl rfl rfl rfl Tryz.sizeOf41 rfl rfl .k0 rfl (al_end (ah_back hok3 hcl3 (fun w9 hs => (((hs.fewer 1 rfl).tail 1 rfl).front (.s (.s (.s (.s (.z))))))) ?_))
     refine ah_one 23 rfl (by kernel_rfl) (fun hok4 hcl4 => ?_)
     refine al_p (q_assign rfl) (al_end (ah_last (by kernel_rfl) ?_))
     refine aq_then (ac_seq (ac_region ?_))
     refine al_p (q_loadAll (i := 1) rfl rfl Tryz.isAgg41 Tryz.sizeOf41 rfl) (al_p (q_loadAll (i := 0) rfl rfl Tryz.isAgg41 Tryz.sizeOf41 rfl) (al_call Tryz.call45 (.cons rfl (.cons rfl .nil)) rfl rfl (fun w5 hs5 => ?_)))
     refine (rmeet9_any y.2.1 y.2.2.1 xa ya _).mono ?_
     rintro e u5 ⟨rfl, hb_5⟩
     refine ⟨_, rfl, hb_5, ?_⟩
     clear hs5
     refine al_p (q_move rfl) (al_p (q_extract rfl rfl) (al_p (q_extract rfl rfl) (al_new (fun b => .pointer (some ⟨b, 0, none⟩)) (r_alloc Tryz.zeroValue41 rfl) rfl rfl rfl ?_)))
     intro b6
     refine al_storeAll (i := 0) rfl rfl rfl rfl Tryz.sizeOf41 rfl rfl .k0 rfl (al_p (q_assign rfl) (al_end (aq_then ?_)))
     refine ac_seq (ac_region ?_)
     refine al_p (q_move rfl) (al_p (q_move rfl) ?_)
     refine aq_split 67 rfl (fun hb1 => ?_) (fun hb1 => ?_)
     ·rw [hb1] at hgi
      refine al_p (q_move rfl) (al_p (q_pickT rfl rfl) (al_p (q_move rfl) ?_))
      refine aq_split 70 rfl (fun hb2 => ?_) (fun hb2 => ?_)
      ·have hok : okAl (zs.getD y.1 ⟨0, 0⟩).lo (zs.getD y.1 ⟨0, 0⟩).hi (backL M C (y.1 : Int)).1 (respL M (y.1 : Int) (k.1 : Int)).1 = true := hb2
       refine al_p (q_move rfl) (al_p (q_eql rfl rfl) (al_p (q_pickT rfl rfl) (al_p (q_assign rfl) (al_end (aq_then ?_)))))
       refine ac_seq (ac_region ?_)
       refine al_p (q_move rfl) (al_end (aq_then ?_))
       refine ac_cond rfl (fun h4 => ?_) (fun h4 => ?_)
       ·have hme : (meetL y.2.1 y.2.2.1 xa ya).2.2 = 0 := of_decide_eq_true h4
        obtain ⟨hxa, hya⟩ := ok_ hok
        have hcl2 : (clL M (bgL M C) zs (k.1 : Int))[y.1]? = some ⟨xa, ya⟩ := by rw [hcl, hxa, hya]
        refine ac_region (al_p (q_loadAll (i := 0) rfl rfl Tryz.isAgg41 Tryz.sizeOf41 rfl) (al_storeAll (i := 2) rfl rfl rfl rfl Tryz.sizeOf41 rfl rfl .k2 rfl (al_end (aq_inN ?_))))
        refine aq_then (aq_keepL [2, 3, 6, 7, 8, 9, 10, 11, 12, 13, 14, 15, 16, 17, 26, 27, 28, 33, 34, 35, 36, 39, 40, 41, 42, 43, 44, 45, 46, 47, 48, 49, 50, 51, 52, 53, 54, 55, 56, 57, 58, 59, 60, 61, 62, 63, 64, 65, 66, 67, 68, 69, 70, 71, 72, 73, 74, 75] (.cons rfl (.cons rfl (.cons rfl (.cons rfl (.cons rfl (.cons rfl (.cons rfl (.cons rfl (.cons rfl (.cons rfl (.cons rfl (.cons rfl (.cons rfl (.cons rfl (.cons rfl (.cons rfl (.cons rfl (.cons rfl (.cons rfl (.cons rfl (.cons rfl (.cons rfl (.cons rfl (.cons rfl (.cons rfl (.cons rfl (.cons rfl (.cons rfl (.cons rfl (.cons rfl (.cons rfl (.cons rfl (.cons rfl (.cons rfl (.cons rfl (.cons rfl (.cons rfl (.cons rfl (.cons rfl (.cons rfl (.cons rfl (.cons rfl (.cons rfl (.cons rfl (.cons rfl (.cons rfl (.cons rfl (.cons rfl (.cons rfl (.cons rfl (.cons rfl (.cons rfl (.cons rfl (.cons rfl (.cons rfl (.cons rfl (.cons rfl (.cons rfl .nil)))))))))))))))))))))))))))))))))))))))))))))))))))))))))) ?_)
        refine ac_region (al_p (q_move rfl) ?_)
        refine al_p (q_add rfl rfl (by omega)) (al_p (q_assign rfl) (al_end (aq_then ?_)))
        skip
        refine aq_round ((y.1 + 1, (meetL y.2.1 y.2.2.1 xa ya).1, (meetL y.2.1 y.2.2.1 xa ya).2.1, (decide ((meetL y.2.1 y.2.2.1 xa ya).2.2 = 0)))) (by simp only; omega) ⟨by simp only; omega, by first | exact goInv.no hgi | exact goInv.bad hgi hcl hbad | exact goInv.step hgi hcl2 hme | exact goInv.stop hgi hcl2 hme⟩ ⟨rfl, rfl, rfl, rfl, rfl, rfl, rfl, rfl, rfl, rfl, rfl, rfl, rfl, trivial⟩ (fun w9 hs => ((hs.fewer 2 rfl).tail 2 rfl))
       ·have hme : ¬ (meetL y.2.1 y.2.2.1 xa ya).2.2 = 0 := of_decide_eq_false h4
        obtain ⟨hxa, hya⟩ := ok_ hok
        have hcl2 : (clL M (bgL M C) zs (k.1 : Int))[y.1]? = some ⟨xa, ya⟩ := by rw [hcl, hxa, hya]
        refine ac_skip (aq_inN (aq_then (ac_region (al_p (q_move rfl) ?_))))
        refine al_p (q_add rfl rfl (by omega)) (al_p (q_assign rfl) (al_end (aq_then ?_)))
        skip
        refine aq_round ((y.1 + 1, y.2.1, y.2.2.1, (decide ((meetL y.2.1 y.2.2.1 xa ya).2.2 = 0)))) (by simp only; omega) ⟨by simp only; omega, by first | exact goInv.no hgi | exact goInv.bad hgi hcl hbad | exact goInv.step hgi hcl2 hme | exact goInv.stop hgi hcl2 hme⟩ ⟨rfl, rfl, rfl, rfl, rfl, rfl, rfl, rfl, rfl, rfl, rfl, rfl, rfl, trivial⟩ (fun w9 hs => ((hs.fewer 2 rfl).tail 2 rfl))
      ·have hbad : vld (allowL (zs.getD y.1 ⟨0, 0⟩).lo (zs.getD y.1 ⟨0, 0⟩).hi (backL M C (y.1 : Int)).1 (respL M (y.1 : Int) (k.1 : Int)).1).1 (allowL (zs.getD y.1 ⟨0, 0⟩).lo (zs.getD y.1 ⟨0, 0⟩).hi (backL M C (y.1 : Int)).1 (respL M (y.1 : Int) (k.1 : Int)).1).2 = false := by rw [← okAl_vld]; exact hb2
       refine al_skip rfl rfl rfl (al_skip rfl rfl rfl (al_p (q_pickF rfl rfl) (al_p (q_assign rfl) (al_end (aq_then ?_)))))
       refine ac_seq (ac_region ?_)
       refine al_p (q_move rfl) (al_end (aq_then ?_))
       refine ac_condF rfl (ac_skip (aq_inN (aq_then (ac_region ?_))))
       refine al_p (q_move rfl) ?_
       refine al_p (q_add rfl rfl (by omega)) (al_p (q_assign rfl) (al_end (aq_then ?_)))
       skip
       refine aq_round ((y.1 + 1, y.2.1, y.2.2.1, false)) (by simp only; omega) ⟨by simp only; omega, by first | exact goInv.no hgi | exact goInv.bad hgi hcl hbad | exact goInv.step hgi hcl2 hme | exact goInv.stop hgi hcl2 hme⟩ ⟨rfl, rfl, rfl, rfl, rfl, rfl, rfl, rfl, rfl, rfl, rfl, rfl, rfl, trivial⟩ (fun w9 hs => ((hs.fewer 2 rfl).tail 2 rfl))
     ·rw [hb1] at hgi
      refine al_skip rfl rfl rfl (al_p (q_pickF rfl rfl) (al_p (q_move rfl) (al_skip rfl rfl rfl (al_skip rfl rfl rfl ?_))))
      refine al_p (q_pickF rfl rfl) (al_p (q_assign rfl) (al_end (aq_then ?_)))
      refine ac_seq (ac_region ?_)
      refine al_p (q_move rfl) (al_end (aq_then ?_))
      refine ac_condF rfl (ac_skip (aq_inN (aq_then (ac_region ?_))))
      refine al_p (q_move rfl) ?_
      refine al_p (q_add rfl rfl (by omega)) (al_p (q_assign rfl) (al_end (aq_then ?_)))
      skip
      refine aq_round ((y.1 + 1, y.2.1, y.2.2.1, false)) (by simp only; omega) ⟨by simp only; omega, by first | exact goInv.no hgi | exact goInv.bad hgi hcl hbad | exact goInv.step hgi hcl2 hme | exact goInv.stop hgi hcl2 hme⟩ ⟨rfl, rfl, rfl, rfl, rfl, rfl, rfl, rfl, rfl, rfl, rfl, rfl, rfl, trivial⟩ (fun w9 hs => ((hs.fewer 2 rfl).tail 2 rfl))
    ·refine al_new (fun b => .pointer (some ⟨b, 0, none⟩)) (r_alloc Tryz.zeroValue41 rfl) rfl rfl rfl ?_
     intro b7
     refine al_end (ah_back hok1 hcl1 (fun w9 hs => ((hs.tail 1 rfl).front (.s (.s (.s (.s (.z))))))) ?_)
     refine ah_one 17 rfl (by kernel_rfl) (fun hok5 hcl5 => ?_)
     refine al_call Tryz.call36 (.cons rfl (.cons rfl (.cons rfl .nil))) rfl rfl (fun w6 hs6 => ?_)
     refine (rallowed4_any (zs.getD y.1 ⟨0, 0⟩).lo (zs.getD y.1 ⟨0, 0⟩).hi (backL M C (y.1 : Int)).1 (respL M (y.1 : Int) (k.1 : Int)).1 _ (hzs _ (List.mem_of_getElem? hx1)) (backL_bd M C _).1 (backL_bd M C _).2 (respL_bd M _ _).1 (respL_bd M _ _).2).mono ?_
     rintro e u6 ⟨xa, ya, rfl, ok_, hb_6⟩
     refine ⟨_, rfl, hb_6, ?_⟩
     clear hs6
     refine al_end (ah_back hok5 hcl5 (fun w9 hs => (((hs.fewer 1 rfl).tail 1 rfl).front (.s (.s (.s (.s (.z))))))) ?_)
     refine ah_t 18 (fun w9 hs => (((hs.fewer 1 rfl).tail 1 rfl).front (.s (.s (.s (.s (.z))))))) rfl rfl (by kernel_rfl) (q_move rfl) (ah_t 19 (fun w9 hs => (((hs.fewer 1 rfl).tail 1 rfl).front (.s (.s (.s (.s (.z))))))) rfl rfl (by kernel_rfl) (q_extract rfl rfl) (ah_t 20 (fun w9 hs => (((hs.fewer 1 rfl).tail 1 rfl).front (.s (.s (.s (.s (.z))))))) rfl rfl (by kernel_rfl) (q_extract rfl rfl) (ah_one 22 rfl (by kernel_rfl) (fun hok6 hcl6 => ?_))))
     refine al_storeAll (i := 0) rfl rfl rfl rfl Tryz.sizeOf41 rfl rfl .k0 rfl (al_end (ah_back hok6 hcl6 (fun w9 hs => (((hs.fewer 1 rfl).tail 1 rfl).front (.s (.s (.s (.s (.z))))))) ?_))
     refine ah_one 23 rfl (by kernel_rfl) (fun hok7 hcl7 => ?_)
     refine al_p (q_assign rfl) (al_end (ah_last (by kernel_rfl) ?_))
     refine aq_then (ac_seq (ac_region ?_))
     refine al_p (q_loadAll (i := 1) rfl rfl Tryz.isAgg41 Tryz.sizeOf41 rfl) (al_p (q_loadAll (i := 0) rfl rfl Tryz.isAgg41 Tryz.sizeOf41 rfl) (al_call Tryz.call45 (.cons rfl (.cons rfl .nil)) rfl rfl (fun w7 hs7 => ?_)))
     refine (rmeet9_any y.2.1 y.2.2.1 xa ya _).mono ?_
     rintro e u7 ⟨rfl, hb_7⟩
     refine ⟨_, rfl, hb_7, ?_⟩
     clear hs7
     refine al_p (q_move rfl) (al_p (q_extract rfl rfl) (al_p (q_extract rfl rfl) (al_new (fun b => .pointer (some ⟨b, 0, none⟩)) (r_alloc Tryz.zeroValue41 rfl) rfl rfl rfl ?_)))
     intro b8
     refine al_storeAll (i := 0) rfl rfl rfl rfl Tryz.sizeOf41 rfl rfl .k0 rfl (al_p (q_assign rfl) (al_end (aq_then ?_)))
     refine ac_seq (ac_region ?_)
     refine al_p (q_move rfl) (al_p (q_move rfl) ?_)
     refine aq_split 67 rfl (fun hb3 => ?_) (fun hb3 => ?_)
     ·rw [hb3] at hgi
      refine al_p (q_move rfl) (al_p (q_pickT rfl rfl) (al_p (q_move rfl) ?_))
      refine aq_split 70 rfl (fun hb4 => ?_) (fun hb4 => ?_)
      ·have hok : okAl (zs.getD y.1 ⟨0, 0⟩).lo (zs.getD y.1 ⟨0, 0⟩).hi (backL M C (y.1 : Int)).1 (respL M (y.1 : Int) (k.1 : Int)).1 = true := hb4
       refine al_p (q_move rfl) (al_p (q_eql rfl rfl) (al_p (q_pickT rfl rfl) (al_p (q_assign rfl) (al_end (aq_then ?_)))))
       refine ac_seq (ac_region ?_)
       refine al_p (q_move rfl) (al_end (aq_then ?_))
       refine ac_cond rfl (fun h5 => ?_) (fun h5 => ?_)
       ·have hme : (meetL y.2.1 y.2.2.1 xa ya).2.2 = 0 := of_decide_eq_true h5
        obtain ⟨hxa, hya⟩ := ok_ hok
        have hcl2 : (clL M (bgL M C) zs (k.1 : Int))[y.1]? = some ⟨xa, ya⟩ := by rw [hcl, hxa, hya]
        refine ac_region (al_p (q_loadAll (i := 0) rfl rfl Tryz.isAgg41 Tryz.sizeOf41 rfl) (al_storeAll (i := 2) rfl rfl rfl rfl Tryz.sizeOf41 rfl rfl .k2 rfl (al_end (aq_inN ?_))))
        refine aq_then (ac_region (al_p (q_move rfl) ?_))
        refine al_p (q_add rfl rfl (by omega)) (al_p (q_assign rfl) (al_end (aq_then ?_)))
        skip
        refine aq_round ((y.1 + 1, (meetL y.2.1 y.2.2.1 xa ya).1, (meetL y.2.1 y.2.2.1 xa ya).2.1, (decide ((meetL y.2.1 y.2.2.1 xa ya).2.2 = 0)))) (by simp only; omega) ⟨by simp only; omega, by first | exact goInv.no hgi | exact goInv.bad hgi hcl hbad | exact goInv.step hgi hcl2 hme | exact goInv.stop hgi hcl2 hme⟩ ⟨rfl, rfl, rfl, rfl, rfl, rfl, rfl, rfl, rfl, rfl, rfl, rfl, rfl, trivial⟩ (fun w9 hs => ((hs.fewer 2 rfl).tail 2 rfl))
       ·have hme : ¬ (meetL y.2.1 y.2.2.1 xa ya).2.2 = 0 := of_decide_eq_false h5
        obtain ⟨hxa, hya⟩ := ok_ hok
        have hcl2 : (clL M (bgL M C) zs (k.1 : Int))[y.1]? = some ⟨xa, ya⟩ := by rw [hcl, hxa, hya]
        refine ac_skip (aq_inN (aq_then (ac_region (al_p (q_move rfl) ?_))))
        refine al_p (q_add rfl rfl (by omega)) (al_p (q_assign rfl) (al_end (aq_then ?_)))
        skip
        refine aq_round ((y.1 + 1, y.2.1, y.2.2.1, (decide ((meetL y.2.1 y.2.2.1 xa ya).2.2 = 0)))) (by simp only; omega) ⟨by simp only; omega, by first | exact goInv.no hgi | exact goInv.bad hgi hcl hbad | exact goInv.step hgi hcl2 hme | exact goInv.stop hgi hcl2 hme⟩ ⟨rfl, rfl, rfl, rfl, rfl, rfl, rfl, rfl, rfl, rfl, rfl, rfl, rfl, trivial⟩ (fun w9 hs => ((hs.fewer 2 rfl).tail 2 rfl))
      ·have hbad : vld (allowL (zs.getD y.1 ⟨0, 0⟩).lo (zs.getD y.1 ⟨0, 0⟩).hi (backL M C (y.1 : Int)).1 (respL M (y.1 : Int) (k.1 : Int)).1).1 (allowL (zs.getD y.1 ⟨0, 0⟩).lo (zs.getD y.1 ⟨0, 0⟩).hi (backL M C (y.1 : Int)).1 (respL M (y.1 : Int) (k.1 : Int)).1).2 = false := by rw [← okAl_vld]; exact hb4
       refine al_skip rfl rfl rfl (al_skip rfl rfl rfl (al_p (q_pickF rfl rfl) (al_p (q_assign rfl) (al_end (aq_then ?_)))))
       refine ac_seq (ac_region ?_)
       refine al_p (q_move rfl) (al_end (aq_then ?_))
       refine ac_condF rfl (ac_skip (aq_inN (aq_then (ac_region ?_))))
       refine al_p (q_move rfl) ?_
       refine al_p (q_add rfl rfl (by omega)) (al_p (q_assign rfl) (al_end (aq_then ?_)))
       skip
       refine aq_round ((y.1 + 1, y.2.1, y.2.2.1, false)) (by simp only; omega) ⟨by simp only; omega, by first | exact goInv.no hgi | exact goInv.bad hgi hcl hbad | exact goInv.step hgi hcl2 hme | exact goInv.stop hgi hcl2 hme⟩ ⟨rfl, rfl, rfl, rfl, rfl, rfl, rfl, rfl, rfl, rfl, rfl, rfl, rfl, trivial⟩ (fun w9 hs => ((hs.fewer 2 rfl).tail 2 rfl))
     ·rw [hb3] at hgi
      refine al_skip rfl rfl rfl (al_p (q_pickF rfl rfl) (al_p (q_move rfl) (al_skip rfl rfl rfl (al_skip rfl rfl rfl ?_))))
      refine al_p (q_pickF rfl rfl) (al_p (q_assign rfl) (al_end (aq_then ?_)))
      refine ac_seq (ac_region ?_)
      refine al_p (q_move rfl) (al_end (aq_then ?_))
      refine ac_condF rfl (ac_skip (aq_inN (aq_then (ac_region ?_))))
      refine al_p (q_move rfl) ?_
      refine al_p (q_add rfl rfl (by omega)) (al_p (q_assign rfl) (al_end (aq_then ?_)))
      skip
      refine aq_round ((y.1 + 1, y.2.1, y.2.2.1, false)) (by simp only; omega) ⟨by simp only; omega, by first | exact goInv.no hgi | exact goInv.bad hgi hcl hbad | exact goInv.step hgi hcl2 hme | exact goInv.stop hgi hcl2 hme⟩ ⟨rfl, rfl, rfl, rfl, rfl, rfl, rfl, rfl, rfl, rfl, rfl, rfl, rfl, trivial⟩ (fun w9 hs => ((hs.fewer 2 rfl).tail 2 rfl))
   ·have hye : y.1 = nf := by have := of_decide_eq_false h3; omega
    obtain ⟨he1, he2⟩ := hgi.end (by rw [clL_len]; omega)
    refine ac_exit (aq_thenE (aq_thenE (aq_hit (aq_then ?_))))
    refine aq_keepL [2, 3, 6, 7, 8, 9, 10, 11, 12, 13, 26, 27, 28, 33, 34, 35, 36] (.cons rfl (.cons rfl (.cons rfl (.cons rfl (.cons rfl (.cons rfl (.cons rfl (.cons rfl (.cons rfl (.cons rfl (.cons rfl (.cons rfl (.cons rfl (.cons rfl (.cons rfl (.cons rfl (.cons rfl .nil))))))))))))))))) ?_
    refine ac_seq (ac_region ?_)
    refine al_p (q_move rfl) (al_end (aq_then ?_))
    refine ac_cond rfl (fun h6 => ?_) (fun h6 => ?_)
    ·have hyt := h6
     have hct := candU_yes (M := M) (C := C) (zs := zs) (k := k.1) (he1.trans h6)
     obtain ⟨ex, ey⟩ := he2 h6
     refine ac_region (al_p (q_move rfl) (al_p (q_move rfl) (al_p (q_loadAll (i := 0) rfl rfl Tryz.isAgg41 Tryz.sizeOf41 rfl) (al_p (q_build (.cons rfl (.cons rfl .nil)) (sxd_bl_apiCandidate_0_1 _ _ _ rfl)) ?_))))
     refine al_new (fun b => .slice (some ⟨b, 0, none⟩) 1 1) (r_buildSlice (.cons rfl .nil) (sxd_bs_apiCandidate_1_0_ _ _ _)) rfl rfl rfl ?_
     intro b9
     refine al_grow (z := 3) (bytes := 24) (zv := (.agg #[.int .i64 0, .int .i64 0, .int .i64 0])) (o := k.2.1) (cs := k.2.2) (vs := [.int .i64 (k.1 : Int), .int .i64 y.2.1, .int .i64 y.2.2.1]) rfl rfl (.s (.s (.s (.s (.s (.z)))))) hgk (Sor.box (j := 0) rfl rfl rfl) Tryz.underlying49 (by kernel_rfl) rfl (by omega) (by decide) rfl rfl (fun o_1 g_1 => ?_)
     refine ⟨_, (.s (.s (.s (.s (.s (.z)))))), ?_⟩
     refine al_p (q_assign rfl) (al_end (aq_inN (aq_then (ac_region ?_))))
     refine al_p (q_move rfl) ?_
     refine al_p (q_add rfl rfl (by omega)) (al_p (q_assign rfl) (al_end (aq_then ?_)))
     skip
     refine aq_round ((k.1 + 1, o_1, (k.2.2 ++ [.int .i64 (k.1 : Int), .int .i64 y.2.1, .int .i64 y.2.2.1]))) (by simp only; omega) ⟨by simp only; omega, by simp only; rw [hct, List.length_append]; exact g_1, by simp only; rw [hct, hcs, List.flatMap_append, ex, ey]; rfl⟩ ⟨rfl, rfl, rfl, rfl, rfl, (by simp only; rw [hct]; first | rfl | (rw [List.length_append]; rfl)), rfl, trivial⟩ (fun w9 hs => ((hs.fewer 1 rfl).tail 2 rfl))
    ·have hct := candU_no (M := M) (C := C) (zs := zs) (k := k.1) (he1.trans h6)
     refine ac_skip (aq_inN (aq_then (ac_region (al_p (q_move rfl) ?_))))
     refine al_p (q_add rfl rfl (by omega)) (al_p (q_assign rfl) (al_end (aq_then ?_)))
     skip
     refine aq_round ((k.1 + 1, k.2.1, k.2.2)) (by simp only; omega) ⟨by simp only; omega, by simp only; rw [hct]; exact hgk, by simp only; rw [hct]; exact hcs⟩ ⟨rfl, rfl, rfl, rfl, rfl, (by simp only; rw [hct]; first | rfl | (rw [List.length_append]; rfl)), rfl, trivial⟩ (fun w9 hs => ((hs.fewer 1 rfl).tail 1 rfl))
  ·have hke : k.1 = (M.grid.nr * M.grid.nz).toNat := by have := of_decide_eq_false h2; omega
   refine ac_exit (aq_thenE (aq_thenE (aq_hit (aq_then ?_))))
   refine ac_seq (ac_region ?_)
   refine al_p (q_move rfl) (al_p (q_assign rfl) (al_p (q_assign rfl) (al_end (aq_then ?_))))
   refine ac_ret (ret2 Tryz.results16 rfl rfl (fun w9 hs => ?_))
   have hL : candZ M C zs = candU M C zs k.1 := by unfold candZ candL candU; rw [if_pos he, hke]; congr 2; omega
   unfold candE; rw [if_pos he, hL]; exact OutT.ok (hs.grown (enc := pairCells) (o := k.2.1) (cs := k.2.2) (zs := candU M C zs k.1) (fun _ => rfl) (fun y hy => by simp [hy]) hgk hcs.symm rfl) hs.below
end
end Go.Proofs.YtapldonpflgnfaaGreatDoor
