import Derived.Test.YtapldonpflgnfaaGreatDoorLBB
import Derived.Test.YtapldonpflgnfaaGreatDoorLBH
import Derived.Test.YtapldonpflgnfaaGreatDoorLBO
import Derived.Test.YtapldonpflgnfaaGreatDoorRows
import Derived.KernelRfl
import Derived.Laws.StructEq
namespace Go.Proofs.YtapldonpflgnfaaGreatDoor
set_option linter.unusedVariables false
set_option linter.unusedSimpArgs false
section
open Go.RowKit
theorem tri_get {l : List Tri} {k : Nat} (h : k < l.length) : l[k]? = some (l.getD k (0, 0, 0)) := by
 simp [List.getD_eq_getElem?_getD, h]
theorem okW_iff {M : MachD} {x : Tri} : okW M x = true ↔ (cellL M x.1).2.2 = 0 ∧ vld x.2.1 x.2.2 = true := by simp [okW]
theorem goW_bad {M : MachD} {l : List Tri} {k : Nat} {x : Tri} {b : Bool} {s : St} {O : Option St} (h : l[k]? = some x) (hx : okW M x = false) (ho : goW M b s (l.drop k) = O) : O = none := by
 rw [goW_drop h, hx] at ho; exact ho.symm
theorem goW_good {M : MachD} {l : List Tri} {k : Nat} {x : Tri} {b : Bool} {s s' : St} {O : Option St} (h : l[k]? = some x) (hx : okW M x = true) (ho : goW M b s (l.drop k) = O) (hs : stepW M b s x = s') : goW M (decide (k + 1 = 0)) s' (l.drop (k + 1)) = O := by
 rw [goW_drop h, hx] at ho
 rw [show decide (k + 1 = 0) = false from by simp, ← hs]; exact ho
theorem where_bad {M : MachD} {zs : List Tri} (h : goW M true .zero zs = none) : whereL M zs = (.zero, 1) := by
 unfold whereL; split <;> simp [h]
theorem where_end {M : MachD} {zs : List Tri} {b : Bool} {s : St} {k : Nat} (hc : checkC M = 0) (hk : zs.length ≤ k) (h : goW M b s (zs.drop k) = goW M true .zero zs) : whereL M zs = if zs.length = 0 then (.zero, 8) else (s, 0) := by
 rw [List.drop_eq_nil_of_le hk] at h
 unfold whereL; rw [if_pos hc, ← h]; rfl
theorem whe_bl_apiSpan_ : ∀ w, (Instr.build 41 #[]).run Tryz.prog w = .ok (.agg #[(.int .i64 0), (.int .i64 0)]) w := by
 intro w; simp [Instr.build, Instr.fill, cells_agg, Tryz.runUnderlying41, Tryz.zeroValue41, Tryz.sizeOf3]
theorem whe_bl_apiSpan_0_1 (a0 a1 : Value) (ha0 : a0.oneCell' = true) (ha1 : a1.oneCell' = true) : ∀ w, (Instr.build 41 #[(0, a0), (1, a1)]).run Tryz.prog w = .ok (.agg #[a0, a1]) w := by
 have ea0 : a0.cells = #[a0] := cells_one ha0
 have ea1 : a1.cells = #[a1] := cells_one ha1
 intro w; simp [Instr.build, Instr.fill, cells_agg, Tryz.runUnderlying41, Tryz.zeroValue41, Tryz.sizeOf3, ea0, ea1]
set_option maxRecDepth 100000 in
theorem where9_any (R : MachR) (M : MachD) (F : Option Addr) (len cap : Nat) (zs : List Tri) (w : World) (hM : IsM w R M) (hF : IsT 3 pairCells w F len zs) (hl : len ≤ 1000000000000000) : Calls Tryz.prog 46 #[(.agg (machCells R M)), (.slice F len cap)] w (Ret (whereV (whereL M zs)) w) := by
 refine calls_ax (vs := [(.agg (machCells R M)), (.slice F len cap)]) Tryz.func46 rfl rfl ?_
 refine ac_seq (ac_region ?_)
 refine al_new (fun b => .pointer (some ⟨b, 0, none⟩)) (r_box rfl rfl) rfl rfl rfl ?_
 intro b1
 refine al_new (fun b => .pointer (some ⟨b, 0, none⟩)) (r_alloc Tryz.zeroValue41 rfl) rfl rfl rfl ?_
 intro b2
 refine al_new (fun b => .pointer (some ⟨b, 0, none⟩)) (r_alloc Tryz.zeroValue41 rfl) rfl rfl rfl ?_
 intro b3
 refine al_new (fun b => .pointer (some ⟨b, 0, none⟩)) (r_alloc Tryz.zeroValue41 rfl) rfl rfl rfl ?_
 intro b4
 refine al_p (q_assign rfl) (al_end (aq_then ?_))
 refine ac_seq (ac_seq (ac_region ?_))
 refine al_p (q_loadAll (i := 3) rfl rfl Tryz.isAgg29 Tryz.sizeOf29 rfl) (al_call Tryz.call84 (.cons rfl .nil) rfl rfl (fun w1 hs1 => ?_))
 refine (check_any R M _ (hM.below hs1.below)).mono ?_
 rintro e u1 ⟨rfl, hb_1⟩
 refine ⟨_, rfl, hb_1, ?_⟩
 clear hs1
 refine al_p (q_neq rfl rfl) (al_end (aq_then ?_))
 refine ac_cond rfl (fun h1 => ?_) (fun h1 => ?_)
 ·have hc : checkC M ≠ 0 := by simpa using h1
  refine ac_seq (ac_region ?_)
  refine al_p (q_build .nil (whe_bl_apiSpan_)) (al_p (q_build .nil (whe_bl_apiSpan_)) (al_p (q_build .nil (whe_bl_apiSpan_)) (al_storeAll (i := 2) rfl rfl rfl rfl Tryz.sizeOf41 rfl rfl .k2 rfl (al_storeAll (i := 1) rfl rfl rfl rfl Tryz.sizeOf41 rfl rfl .k1 rfl ?_))))
  refine al_storeAll (i := 0) rfl rfl rfl rfl Tryz.sizeOf41 rfl rfl .k0 rfl (al_p (q_assign rfl) (al_end (aq_then ?_)))
  refine ac_ret (aq_thenR (retR Tryz.results46 (.agg (i := 2) rfl rfl Tryz.isAgg41 Tryz.sizeOf41 rfl (.agg (i := 1) rfl rfl Tryz.isAgg41 Tryz.sizeOf41 rfl (.agg (i := 0) rfl rfl Tryz.isAgg41 Tryz.sizeOf41 rfl (.tmp rfl .nil)))) .two (fun w9 hs => ?_)))
  unfold whereL; rw [if_neg hc]; exact ⟨rfl, hs.below⟩
 ·have hc : checkC M = 0 := by simpa using h1
  refine ac_skip (aq_then (ac_seq (ac_seq (ac_region ?_))))
  refine al_p (q_move rfl) (al_p (q_lenS rfl Tryz.runUnderlying49) (al_p (q_move rfl) (al_end (aq_then ?_))))
  refine ac_block (ac_loop (β := Nat × St) (fun x => x.1 ≤ len ∧ (x.1 = 0 → x.2 = .zero) ∧ (x.1 ≠ 0 → x.2.ok = true) ∧ goW M (decide (x.1 = 0)) x.2 (zs.drop x.1) = goW M true .zero zs) (fun x => [(1, (.slice F len cap)), (2, (.pointer (some ⟨b1, 0, none⟩))), (4, (.pointer (some ⟨b2, 0, none⟩))), (5, (.pointer (some ⟨b3, 0, none⟩))), (6, (.pointer (some ⟨b4, 0, none⟩))), (7, (.int .i64 0)), (20, (.slice F len cap)), (21, (.int .i64 (len : Int))), (22, (.int .i64 (x.1 : Int)))]) (fun _ => _) (fun x => [(b4, .cells [.int .i64 x.2.c1, .int .i64 x.2.c2]), (b3, .cells [.int .i64 x.2.z1, .int .i64 x.2.z2]), (b2, .cells [.int .i64 x.2.r1, .int .i64 x.2.r2]), (b1, _)]) (fun x => len - x.1) (0, .zero) ⟨by simp, fun _ => rfl, fun h => absurd rfl h, rfl⟩ ⟨rfl, rfl, rfl, rfl, rfl, rfl, rfl, rfl, rfl, trivial⟩ (fun w9 hs => hs) (fun x hF1 => ?_))
  obtain ⟨hxa, hz0, hzk, hgo⟩ := hF1
  refine ac_seq (ac_region ?_)
  refine al_p (q_lss rfl rfl) (al_end (aq_then ?_))
  refine ac_seq ?_
  refine ac_cond rfl (fun h2 => ?_) (fun h2 => ?_)
  ·have hxl : x.1 < len := by have := of_decide_eq_true h2; omega
   obtain ⟨b11, o11, hA1, hlt1, hget1⟩ := hF.2 (by omega)
   have hx1 := tri_get (l := zs) (k := x.1) (by have := hF.1; omega)
   refine ac_skip (aq_then (ac_seq (ac_block (ac_seq (ac_region ?_)))))
   refine al_p (q_move rfl) ?_
   refine al_p (q_indexAddrA (i := x.1) (o11 + x.1 * 3 + 0) hA1 rfl rfl rfl (by omega) Tryz.runUnderlying49 Tryz.sizeOf73 rfl) (al_p (q_loadXs (pairCells (zs.getD x.1 (0, 0, 0))) rfl Tryz.isAgg73 Tryz.sizeOf73 (fun w9 hs j9 v9 h9 => by rw [addr_add]; exact (hs.below.cell (p := ⟨_, _, none⟩) hlt1).trans ((hget1 x.1 _ hx1) j9 v9 h9)) rfl) (al_new (fun b => .pointer (some ⟨b, 0, none⟩)) (r_alloc Tryz.zeroValue73 rfl) rfl rfl rfl ?_))
   intro b5
   refine al_p (q_assign rfl) (al_storeAll (i := 0) rfl rfl rfl rfl Tryz.sizeOf73 rfl rfl .k0 rfl (al_end (aq_then ?_)))
   refine ac_seq (ac_region ?_)
   refine al_p (q_loadAll (i := 4) rfl rfl Tryz.isAgg29 Tryz.sizeOf29 rfl) ?_
   refine al_p (q_fieldAddr 0 rfl Tryz.runUnderlying73 rfl Tryz.sizeOf3 (by decide) rfl) (al_p (q_load (i := 0) rfl rfl rfl Tryz.isAgg3) (al_call Tryz.call64 (.cons rfl (.cons rfl .nil)) rfl rfl (fun w2 hs2 => ?_)))
   refine (mcell9_any R M (zs.getD x.1 (0, 0, 0)).1 _ (hM.below hs2.below)).mono ?_
   rintro e u2 ⟨rfl, hb_2⟩
   refine ⟨_, rfl, hb_2, ?_⟩
   clear hs2
   refine al_p (q_move rfl) (al_p (q_extract rfl rfl) (al_p (q_extract rfl rfl) (al_new (fun b => .pointer (some ⟨b, 0, none⟩)) (r_alloc Tryz.zeroValue79 rfl) rfl rfl rfl ?_)))
   intro b6
   refine al_storeAll (i := 0) rfl rfl rfl rfl Tryz.sizeOf79 rfl rfl .k0 rfl (al_p (q_assign rfl) (al_end (aq_then ?_)))
   refine ac_seq (ac_seq (ac_region ?_))
   refine al_p (q_move rfl) (al_p (q_neq rfl rfl) (al_p (q_move rfl) ?_))
   refine aq_split 36 rfl (fun hb1 => ?_) (fun hb1 => ?_)
   ·have hbd : okW M (zs.getD x.1 (0, 0, 0)) = false := by rw [Bool.eq_false_iff]; intro h9; rw [okW_iff] at h9; rw [h9.1] at hb1; simp at hb1
    refine al_skip rfl rfl rfl (al_skip rfl rfl rfl (al_skip rfl rfl rfl (al_skip rfl rfl rfl (al_p (q_pickT rfl rfl) ?_))))
    refine al_end (aq_then ?_)
    refine ac_condT rfl (ac_seq (ac_region ?_))
    refine al_p (q_build .nil (whe_bl_apiSpan_)) (al_p (q_build .nil (whe_bl_apiSpan_)) (al_p (q_build .nil (whe_bl_apiSpan_)) (al_storeAll (i := 4) rfl rfl rfl rfl Tryz.sizeOf41 rfl rfl .k4 rfl (al_storeAll (i := 3) rfl rfl rfl rfl Tryz.sizeOf41 rfl rfl .k3 rfl ?_))))
    refine al_storeAll (i := 2) rfl rfl rfl rfl Tryz.sizeOf41 rfl rfl .k2 rfl (al_p (q_assign rfl) (al_end (aq_then ?_)))
    refine ac_ret (aq_thenR (aq_inR (aq_thenR (aq_thenR ?_))))
    refine aq_inR (aq_thenR (retR Tryz.results46 (.agg (i := 4) rfl rfl Tryz.isAgg41 Tryz.sizeOf41 rfl (.agg (i := 3) rfl rfl Tryz.isAgg41 Tryz.sizeOf41 rfl (.agg (i := 2) rfl rfl Tryz.isAgg41 Tryz.sizeOf41 rfl (.tmp rfl .nil)))) .two (fun w9 hs => ?_)))
    rw [where_bad (goW_bad hx1 hbd hgo)]; exact ⟨rfl, hs.below⟩
   ·have hcl : (cellL M (zs.getD x.1 (0, 0, 0)).1).2.2 = 0 := by simpa using hb1
    refine al_p (q_fieldAddr 1 rfl Tryz.runUnderlying73 rfl Tryz.sizeOf41 (by decide) rfl) (al_p (q_loadSub (i := 1) rfl rfl Tryz.isAgg41 Tryz.sizeOf41 .k1 .k2) (al_call Tryz.call31 (.cons rfl .nil) rfl rfl (fun w3 hs3 => ?_)))
    refine (valid_any (zs.getD x.1 (0, 0, 0)).2.1 (zs.getD x.1 (0, 0, 0)).2.2 _).mono ?_
    rintro e u3 ⟨rfl, hb_3⟩
    refine ⟨_, rfl, hb_3, ?_⟩
    clear hs3
    refine al_p (q_not rfl) (al_p (q_pickF rfl rfl) (al_end (aq_then ?_)))
    refine ac_cond rfl (fun h3 => ?_) (fun h3 => ?_)
    ·have hbd : okW M (zs.getD x.1 (0, 0, 0)) = false := by rw [Bool.eq_false_iff]; intro h9; rw [okW_iff] at h9; rw [h9.2] at h3; simp at h3
     refine ac_seq (ac_region ?_)
     refine al_p (q_build .nil (whe_bl_apiSpan_)) (al_p (q_build .nil (whe_bl_apiSpan_)) (al_p (q_build .nil (whe_bl_apiSpan_)) (al_storeAll (i := 4) rfl rfl rfl rfl Tryz.sizeOf41 rfl rfl .k4 rfl (al_storeAll (i := 3) rfl rfl rfl rfl Tryz.sizeOf41 rfl rfl .k3 rfl ?_))))
     refine al_storeAll (i := 2) rfl rfl rfl rfl Tryz.sizeOf41 rfl rfl .k2 rfl (al_p (q_assign rfl) (al_end (aq_then ?_)))
     refine ac_ret (aq_thenR (aq_inR (aq_thenR (aq_thenR ?_))))
     refine aq_inR (aq_thenR (retR Tryz.results46 (.agg (i := 4) rfl rfl Tryz.isAgg41 Tryz.sizeOf41 rfl (.agg (i := 3) rfl rfl Tryz.isAgg41 Tryz.sizeOf41 rfl (.agg (i := 2) rfl rfl Tryz.isAgg41 Tryz.sizeOf41 rfl (.tmp rfl .nil)))) .two (fun w9 hs => ?_)))
     rw [where_bad (goW_bad hx1 hbd hgo)]; exact ⟨rfl, hs.below⟩
    ·have hvl : vld (zs.getD x.1 (0, 0, 0)).2.1 (zs.getD x.1 (0, 0, 0)).2.2 = true := by simpa using h3
     have hok : okW M (zs.getD x.1 (0, 0, 0)) = true := okW_iff.2 ⟨hcl, hvl⟩
     obtain ⟨hvx, hvy⟩ := cellL_vld hcl
     refine ac_skip (aq_then (ac_seq (ac_draw 13 (by kernel_rfl) (by kernel_rfl) ?_)))
     refine ah_share (fuel' := 2) (listed' := #[true, true, true, true, true, true, true, true, true, true, true, true, false, false]) (fun K => ∀ (b1001 : Nat), ∀ (b3001 : Nat), K [(1, (.slice F len cap)), (2, (.pointer (some ⟨b1, 0, none⟩))), (4, (.pointer (some ⟨b2, 0, none⟩))), (5, (.pointer (some ⟨b3, 0, none⟩))), (6, (.pointer (some ⟨b4, 0, none⟩))), (7, (.int .i64 0)), (8, (.int .i64 (x.1 : Int))), (9, (.pointer (some ⟨b5, 0, none⟩))), (10, (.pointer (some ⟨b6, 0, none⟩))), (11, (.int .i64 (cellL M (zs.getD x.1 (0, 0, 0)).1).2.2)), (12, (.pointer (some ⟨b1001, 0, none⟩))), (13, (.pointer (some ⟨b3001, 0, none⟩))), (20, (.slice F len cap)), (21, (.int .i64 (len : Int))), (22, (.int .i64 (x.1 : Int))), (24, (.int .i64 (x.1 : Int))), (25, (.pointer (some ⟨b11, o11 + x.1 * 3 + 0, none⟩))), (26, (.agg #[.int .i64 (zs.getD x.1 (0, 0, 0)).1, .int .i64 (zs.getD x.1 (0, 0, 0)).2.1, .int .i64 (zs.getD x.1 (0, 0, 0)).2.2])), (28, (.agg (machCells R M))), (29, (.pointer (some ⟨b5, 0, none⟩))), (30, (.int .i64 (zs.getD x.1 (0, 0, 0)).1)), (32, (.agg #[.int .i64 (cellL M (zs.getD x.1 (0, 0, 0)).1).1, .int .i64 (cellL M (zs.getD x.1 (0, 0, 0)).1).2.1])), (33, (.int .i64 (cellL M (zs.getD x.1 (0, 0, 0)).1).2.2)), (34, (.int .i64 (cellL M (zs.getD x.1 (0, 0, 0)).1).2.2)), (36, (.bool false)), (37, (.pointer (some ⟨b5, 1, none⟩))), (38, (.agg #[(.int .i64 (zs.getD x.1 (0, 0, 0)).2.1), (.int .i64 (zs.getD x.1 (0, 0, 0)).2.2)])), (39, (.bool (vld (zs.getD x.1 (0, 0, 0)).2.1 (zs.getD x.1 (0, 0, 0)).2.2))), (45, (.pointer (some ⟨b6, 0, none⟩))), (46, (.int .i64 (cellL M (zs.getD x.1 (0, 0, 0)).1).1)), (47, (.pointer (some ⟨b6, 0, none⟩))), (48, (.int .i64 (cellL M (zs.getD x.1 (0, 0, 0)).1).1)), (49, (.agg #[(.int .i64 (cellL M (zs.getD x.1 (0, 0, 0)).1).1), (.int .i64 (cellL M (zs.getD x.1 (0, 0, 0)).1).1)])), (50, (.pointer (some ⟨b6, 1, none⟩))), (51, (.int .i64 (cellL M (zs.getD x.1 (0, 0, 0)).1).2.1)), (52, (.pointer (some ⟨b6, 1, none⟩))), (53, (.int .i64 (cellL M (zs.getD x.1 (0, 0, 0)).1).2.1)), (54, (.agg #[(.int .i64 (cellL M (zs.getD x.1 (0, 0, 0)).1).2.1), (.int .i64 (cellL M (zs.getD x.1 (0, 0, 0)).1).2.1)]))] [(b3001, .cells [(.int .i64 0), (.int .i64 0)]), (b1001, .cells [(.int .i64 0), (.int .i64 0)]), (b6, .cells [(.int .i64 (cellL M (zs.getD x.1 (0, 0, 0)).1).1), (.int .i64 (cellL M (zs.getD x.1 (0, 0, 0)).1).2.1)]), (b5, .cells [(.int .i64 (zs.getD x.1 (0, 0, 0)).1), (.int .i64 (zs.getD x.1 (0, 0, 0)).2.1), (.int .i64 (zs.getD x.1 (0, 0, 0)).2.2)]), (b4, .cells [.int .i64 x.2.c1, .int .i64 x.2.c2]), (b3, .cells [.int .i64 x.2.z1, .int .i64 x.2.z2]), (b2, .cells [.int .i64 x.2.r1, .int .i64 x.2.r2]), (b1, .cells (machCells R M).toList)]) ?_ (fun hS1_0 => ?_)
     ·intro b1001 b3001
      refine ah_one 12 rfl (by kernel_rfl) (fun hok1 hcl1 => ?_)
      refine al_storeAll (i := 1) rfl rfl rfl rfl Tryz.sizeOf41 rfl rfl .k1 rfl (al_end (ah_back hok1 hcl1 (fun w9 hs => (hs.tail 2 rfl)) ?_))
      refine ah_one 13 rfl (by kernel_rfl) (fun hok2 hcl2 => ?_)
      refine al_storeAll (i := 0) rfl rfl rfl rfl Tryz.sizeOf41 rfl rfl .k0 rfl (al_end (ah_last (by kernel_rfl) ?_))
      refine aq_then (ac_seq (ac_seq (ac_region ?_)))
      refine al_p (q_move rfl) (al_p (q_eql rfl rfl) (al_end (aq_then ?_)))
      refine ac_cond rfl (fun h4 => ?_) (fun h4 => ?_)
      ·have hfst : x.1 = 0 := by have := of_decide_eq_true h4; omega
       refine aq_pm (.cons (.there (.there (.there (.there (.here))))) ( .cons (.there (.there (.there (.there (.here))))) ( .cons (.there (.there (.there (.there (.here))))) (.refl)))) ?_
       refine ac_drawK 3 6 rfl (by kernel_rfl) (by kernel_rfl) ?_
       refine ah_t 0 (fun w9 hs => (hs.tail 3 rfl)) rfl rfl (by kernel_rfl) (q_loadAll (i := 1) rfl rfl Tryz.isAgg41 Tryz.sizeOf41 rfl) (ah_t 1 (fun w9 hs => (hs.tail 3 rfl)) rfl rfl (by kernel_rfl) (q_loadAll (i := 0) rfl rfl Tryz.isAgg41 Tryz.sizeOf41 rfl) ?_)
       refine ah_t 2 (fun w9 hs => (hs.tail 3 rfl)) rfl rfl (by kernel_rfl) (q_fieldAddr 1 rfl Tryz.runUnderlying73 rfl Tryz.sizeOf41 (by decide) rfl) (ah_t 3 (fun w9 hs => (hs.tail 3 rfl)) rfl rfl (by kernel_rfl) (q_loadSub (i := 3) rfl rfl Tryz.isAgg41 Tryz.sizeOf41 .k1 .k2) (ah_one 4 rfl (by kernel_rfl) (fun hok3 hcl3 => ?_)))
       refine al_storeAll (i := 2) rfl rfl rfl rfl Tryz.sizeOf41 rfl rfl .k2 rfl (al_end (ah_back hok3 hcl3 (fun w9 hs => (hs.tail 3 rfl)) ?_))
       refine ah_one 5 rfl (by kernel_rfl) (fun hok4 hcl4 => ?_)
       refine al_storeAll (i := 1) rfl rfl rfl rfl Tryz.sizeOf41 rfl rfl .k1 rfl (al_end (ah_back hok4 hcl4 (fun w9 hs => (hs.tail 3 rfl)) ?_))
       refine ah_one 6 rfl (by kernel_rfl) (fun hok5 hcl5 => ?_)
       refine al_storeAll (i := 0) rfl rfl rfl rfl Tryz.sizeOf41 rfl rfl .k0 rfl (al_end (ah_last (by kernel_rfl) ?_))
       refine aq_then (ac_seq (aq_pm (.cons (.there (.there (.there (.here)))) ( .cons (.there (.there (.there (.here)))) ( .cons (.there (.there (.there (.here)))) ( .cons (.there (.there (.there (.here)))) (.refl))))) ?_))
       refine ac_region (al_p (q_loadAll (i := 6) rfl rfl Tryz.isAgg41 Tryz.sizeOf41 rfl) (al_p (q_loadAll (i := 1) rfl rfl Tryz.isAgg41 Tryz.sizeOf41 rfl) (al_call Tryz.call85 (.cons rfl (.cons rfl .nil)) rfl rfl (fun w4 hs4 => ?_))))
       refine (hull_pair (cellL M (zs.getD x.1 (0, 0, 0)).1).1 (cellL M (zs.getD x.1 (0, 0, 0)).1).1 (cellL M (zs.getD x.1 (0, 0, 0)).1).1 (cellL M (zs.getD x.1 (0, 0, 0)).1).1 _ hvx hvx).mono ?_
       rintro e u4 ⟨rfl, hb_4⟩
       refine ⟨_, rfl, hb_4, ?_⟩
       clear hs4
       refine al_p (q_move rfl) (al_p (q_extract rfl rfl) (al_p (q_extract rfl rfl) (al_storeAll (i := 6) rfl rfl rfl rfl Tryz.sizeOf41 rfl rfl .k6 rfl (al_end (aq_then ?_)))))
       refine ac_seq (ac_region ?_)
       refine al_p (q_loadAll (i := 5) rfl rfl Tryz.isAgg41 Tryz.sizeOf41 rfl) (al_p (q_loadAll (i := 0) rfl rfl Tryz.isAgg41 Tryz.sizeOf41 rfl) (al_call Tryz.call85 (.cons rfl (.cons rfl .nil)) rfl rfl (fun w5 hs5 => ?_)))
       refine (hull_pair (cellL M (zs.getD x.1 (0, 0, 0)).1).2.1 (cellL M (zs.getD x.1 (0, 0, 0)).1).2.1 (cellL M (zs.getD x.1 (0, 0, 0)).1).2.1 (cellL M (zs.getD x.1 (0, 0, 0)).1).2.1 _ hvy hvy).mono ?_
       rintro e u5 ⟨rfl, hb_5⟩
       refine ⟨_, rfl, hb_5, ?_⟩
       clear hs5
       refine al_p (q_move rfl) (al_p (q_extract rfl rfl) (al_p (q_extract rfl rfl) (al_storeAll (i := 5) rfl rfl rfl rfl Tryz.sizeOf41 rfl rfl .k5 rfl (al_end (aq_then ?_)))))
       refine ac_region (al_p (q_loadAll (i := 4) rfl rfl Tryz.isAgg41 Tryz.sizeOf41 rfl) ?_)
       refine al_p (q_fieldAddr 1 rfl Tryz.runUnderlying73 rfl Tryz.sizeOf41 (by decide) rfl) (al_p (q_loadSub (i := 3) rfl rfl Tryz.isAgg41 Tryz.sizeOf41 .k1 .k2) (al_call Tryz.call85 (.cons rfl (.cons rfl .nil)) rfl rfl (fun w6 hs6 => ?_)))
       refine (hull_pair (zs.getD x.1 (0, 0, 0)).2.1 (zs.getD x.1 (0, 0, 0)).2.2 (zs.getD x.1 (0, 0, 0)).2.1 (zs.getD x.1 (0, 0, 0)).2.2 _ hvl hvl).mono ?_
       rintro e u6 ⟨rfl, hb_6⟩
       refine ⟨_, rfl, hb_6, ?_⟩
       clear hs6
       refine al_p (q_move rfl) (al_p (q_extract rfl rfl) (al_p (q_extract rfl rfl) (al_storeAll (i := 4) rfl rfl rfl rfl Tryz.sizeOf41 rfl rfl .k4 rfl (al_end ?_))))
       refine aq_inN (aq_then (aq_keepL [1, 2, 4, 5, 6, 7, 8, 9, 10, 11, 12, 13, 20, 21, 22, 24, 25, 26, 28, 29, 30, 32, 33, 34, 36, 37, 38, 39, 45, 46, 47, 48, 49, 50, 51, 52, 53, 54, 55, 56, 57, 58, 59, 60, 61, 62, 63, 64, 65, 67, 68, 69, 70, 71, 73, 74, 75, 76, 77, 78] (.cons rfl (.cons rfl (.cons rfl (.cons rfl (.cons rfl (.cons rfl (.cons rfl (.cons rfl (.cons rfl (.cons rfl (.cons rfl (.cons rfl (.cons rfl (.cons rfl (.cons rfl (.cons rfl (.cons rfl (.cons rfl (.cons rfl (.cons rfl (.cons rfl (.cons rfl (.cons rfl (.cons rfl (.cons rfl (.cons rfl (.cons rfl (.cons rfl (.cons rfl (.cons rfl (.cons rfl (.cons rfl (.cons rfl (.cons rfl (.cons rfl (.cons rfl (.cons rfl (.cons rfl (.cons rfl (.cons rfl (.cons rfl (.cons rfl (.cons rfl (.cons rfl (.cons rfl (.cons rfl (.cons rfl (.cons rfl (.cons rfl (.cons rfl (.cons rfl (.cons rfl (.cons rfl (.cons rfl (.cons rfl (.cons rfl (.cons rfl (.cons rfl (.cons rfl (.cons rfl .nil)))))))))))))))))))))))))))))))))))))))))))))))))))))))))))) ?_))
       refine ac_region ?_
       refine al_p (q_add rfl rfl (by omega)) (al_p (q_move rfl) (al_end (aq_then ?_)))
       have hst : stepW M (decide (x.1 = 0)) x.2 (zs.getD x.1 (0, 0, 0)) = ⟨(min (cellL M (zs.getD x.1 (0, 0, 0)).1).1 (cellL M (zs.getD x.1 (0, 0, 0)).1).1), (max (cellL M (zs.getD x.1 (0, 0, 0)).1).1 (cellL M (zs.getD x.1 (0, 0, 0)).1).1), (min (cellL M (zs.getD x.1 (0, 0, 0)).1).2.1 (cellL M (zs.getD x.1 (0, 0, 0)).1).2.1), (max (cellL M (zs.getD x.1 (0, 0, 0)).1).2.1 (cellL M (zs.getD x.1 (0, 0, 0)).1).2.1), (min (zs.getD x.1 (0, 0, 0)).2.1 (zs.getD x.1 (0, 0, 0)).2.1), (max (zs.getD x.1 (0, 0, 0)).2.2 (zs.getD x.1 (0, 0, 0)).2.2)⟩ := by
        rw [show decide (x.1 = 0) = true from by simp [hfst]]
        simp [stepW, St.init]
       have hgo2 := goW_good hx1 hok hgo hst
       have hok2 : (⟨(min (cellL M (zs.getD x.1 (0, 0, 0)).1).1 (cellL M (zs.getD x.1 (0, 0, 0)).1).1), (max (cellL M (zs.getD x.1 (0, 0, 0)).1).1 (cellL M (zs.getD x.1 (0, 0, 0)).1).1), (min (cellL M (zs.getD x.1 (0, 0, 0)).1).2.1 (cellL M (zs.getD x.1 (0, 0, 0)).1).2.1), (max (cellL M (zs.getD x.1 (0, 0, 0)).1).2.1 (cellL M (zs.getD x.1 (0, 0, 0)).1).2.1), (min (zs.getD x.1 (0, 0, 0)).2.1 (zs.getD x.1 (0, 0, 0)).2.1), (max (zs.getD x.1 (0, 0, 0)).2.2 (zs.getD x.1 (0, 0, 0)).2.2)⟩ : St).ok = true := by simp only [St.ok, Bool.and_eq_true]; exact ⟨vld_hull hvx hvx, vld_hull hvy hvy, vld_hull hvl hvl⟩
       refine aq_round ((x.1 + 1, ⟨(min (cellL M (zs.getD x.1 (0, 0, 0)).1).1 (cellL M (zs.getD x.1 (0, 0, 0)).1).1), (max (cellL M (zs.getD x.1 (0, 0, 0)).1).1 (cellL M (zs.getD x.1 (0, 0, 0)).1).1), (min (cellL M (zs.getD x.1 (0, 0, 0)).1).2.1 (cellL M (zs.getD x.1 (0, 0, 0)).1).2.1), (max (cellL M (zs.getD x.1 (0, 0, 0)).1).2.1 (cellL M (zs.getD x.1 (0, 0, 0)).1).2.1), (min (zs.getD x.1 (0, 0, 0)).2.1 (zs.getD x.1 (0, 0, 0)).2.1), (max (zs.getD x.1 (0, 0, 0)).2.2 (zs.getD x.1 (0, 0, 0)).2.2)⟩)) (by simp only; omega) ⟨by simp only; omega, fun h => by simp only at h; omega, fun _ => hok2, hgo2⟩ ⟨rfl, rfl, rfl, rfl, rfl, rfl, rfl, rfl, rfl, trivial⟩ (fun w9 hs => ((hs.fewer 5 rfl).tail 4 rfl))
      ·have hfst : x.1 ≠ 0 := by have := of_decide_eq_false h4; omega
       have hs0 := hzk hfst
       simp only [St.ok, Bool.and_eq_true] at hs0
       obtain ⟨hs1, hs2, hs3⟩ := hs0
       refine ac_skip (aq_then (ac_seq (ac_region ?_)))
       refine al_p (q_loadAll (i := 6) rfl rfl Tryz.isAgg41 Tryz.sizeOf41 rfl) (al_p (q_loadAll (i := 1) rfl rfl Tryz.isAgg41 Tryz.sizeOf41 rfl) (al_call Tryz.call85 (.cons rfl (.cons rfl .nil)) rfl rfl (fun w7 hs7 => ?_)))
       refine (hull_pair x.2.r1 x.2.r2 (cellL M (zs.getD x.1 (0, 0, 0)).1).1 (cellL M (zs.getD x.1 (0, 0, 0)).1).1 _ hs1 hvx).mono ?_
       rintro e u7 ⟨rfl, hb_7⟩
       refine ⟨_, rfl, hb_7, ?_⟩
       clear hs7
       refine al_p (q_move rfl) (al_p (q_extract rfl rfl) (al_p (q_extract rfl rfl) (al_storeAll (i := 6) rfl rfl rfl rfl Tryz.sizeOf41 rfl rfl .k6 rfl (al_end (aq_then ?_)))))
       refine ac_seq (ac_region ?_)
       refine al_p (q_loadAll (i := 5) rfl rfl Tryz.isAgg41 Tryz.sizeOf41 rfl) (al_p (q_loadAll (i := 0) rfl rfl Tryz.isAgg41 Tryz.sizeOf41 rfl) (al_call Tryz.call85 (.cons rfl (.cons rfl .nil)) rfl rfl (fun w8 hs8 => ?_)))
       refine (hull_pair x.2.z1 x.2.z2 (cellL M (zs.getD x.1 (0, 0, 0)).1).2.1 (cellL M (zs.getD x.1 (0, 0, 0)).1).2.1 _ hs2 hvy).mono ?_
       rintro e u8 ⟨rfl, hb_8⟩
       refine ⟨_, rfl, hb_8, ?_⟩
       clear hs8
       refine al_p (q_move rfl) (al_p (q_extract rfl rfl) (al_p (q_extract rfl rfl) (al_storeAll (i := 5) rfl rfl rfl rfl Tryz.sizeOf41 rfl rfl .k5 rfl (al_end (aq_then ?_)))))
       refine ac_region (al_p (q_loadAll (i := 4) rfl rfl Tryz.isAgg41 Tryz.sizeOf41 rfl) ?_)
       refine al_p (q_fieldAddr 1 rfl Tryz.runUnderlying73 rfl Tryz.sizeOf41 (by decide) rfl) (al_p (q_loadSub (i := 3) rfl rfl Tryz.isAgg41 Tryz.sizeOf41 .k1 .k2) (al_call Tryz.call85 (.cons rfl (.cons rfl .nil)) rfl rfl (fun w9 hs9 => ?_)))
       refine (hull_pair x.2.c1 x.2.c2 (zs.getD x.1 (0, 0, 0)).2.1 (zs.getD x.1 (0, 0, 0)).2.2 _ hs3 hvl).mono ?_
       rintro e u9 ⟨rfl, hb_9⟩
       refine ⟨_, rfl, hb_9, ?_⟩
       clear hs9
       refine al_p (q_move rfl) (al_p (q_extract rfl rfl) (al_p (q_extract rfl rfl) (al_storeAll (i := 4) rfl rfl rfl rfl Tryz.sizeOf41 rfl rfl .k4 rfl (al_end ?_))))
       refine aq_inN (aq_then (ac_region ?_))
       refine al_p (q_add rfl rfl (by omega)) (al_p (q_move rfl) (al_end (aq_then ?_)))
       have hst : stepW M (decide (x.1 = 0)) x.2 (zs.getD x.1 (0, 0, 0)) = ⟨(min x.2.r1 (cellL M (zs.getD x.1 (0, 0, 0)).1).1), (max x.2.r2 (cellL M (zs.getD x.1 (0, 0, 0)).1).1), (min x.2.z1 (cellL M (zs.getD x.1 (0, 0, 0)).1).2.1), (max x.2.z2 (cellL M (zs.getD x.1 (0, 0, 0)).1).2.1), (min x.2.c1 (zs.getD x.1 (0, 0, 0)).2.1), (max x.2.c2 (zs.getD x.1 (0, 0, 0)).2.2)⟩ := by
        rw [show decide (x.1 = 0) = false from by simp [hfst]]
        rfl
       have hgo2 := goW_good hx1 hok hgo hst
       have hok2 : (⟨(min x.2.r1 (cellL M (zs.getD x.1 (0, 0, 0)).1).1), (max x.2.r2 (cellL M (zs.getD x.1 (0, 0, 0)).1).1), (min x.2.z1 (cellL M (zs.getD x.1 (0, 0, 0)).1).2.1), (max x.2.z2 (cellL M (zs.getD x.1 (0, 0, 0)).1).2.1), (min x.2.c1 (zs.getD x.1 (0, 0, 0)).2.1), (max x.2.c2 (zs.getD x.1 (0, 0, 0)).2.2)⟩ : St).ok = true := by simp only [St.ok, Bool.and_eq_true]; exact ⟨vld_hull hs1 hvx, vld_hull hs2 hvy, vld_hull hs3 hvl⟩
       refine aq_round ((x.1 + 1, ⟨(min x.2.r1 (cellL M (zs.getD x.1 (0, 0, 0)).1).1), (max x.2.r2 (cellL M (zs.getD x.1 (0, 0, 0)).1).1), (min x.2.z1 (cellL M (zs.getD x.1 (0, 0, 0)).1).2.1), (max x.2.z2 (cellL M (zs.getD x.1 (0, 0, 0)).1).2.1), (min x.2.c1 (zs.getD x.1 (0, 0, 0)).2.1), (max x.2.c2 (zs.getD x.1 (0, 0, 0)).2.2)⟩)) (by simp only; omega) ⟨by simp only; omega, fun h => by simp only at h; omega, fun _ => hok2, hgo2⟩ ⟨rfl, rfl, rfl, rfl, rfl, rfl, rfl, rfl, rfl, trivial⟩ (fun w9 hs => ((hs.fewer 5 rfl).tail 4 rfl))
     ·refine ah_t 0 (fun w9 hs => hs) rfl rfl (by kernel_rfl) (q_fieldAddr 0 rfl Tryz.runUnderlying79 rfl Tryz.sizeOf3 (by decide) rfl) (ah_t 1 (fun w9 hs => hs) rfl rfl (by kernel_rfl) (q_load (i := 0) rfl rfl rfl Tryz.isAgg3) ?_)
      refine ah_t 2 (fun w9 hs => hs) rfl rfl (by kernel_rfl) (q_fieldAddr 0 rfl Tryz.runUnderlying79 rfl Tryz.sizeOf3 (by decide) rfl) (ah_t 3 (fun w9 hs => hs) rfl rfl (by kernel_rfl) (q_load (i := 0) rfl rfl rfl Tryz.isAgg3) (ah_t 4 (fun w9 hs => hs) rfl rfl (by kernel_rfl) (q_build (.cons rfl (.cons rfl .nil)) (whe_bl_apiSpan_0_1 _ _ rfl rfl)) ?_))
      refine ah_t 5 (fun w9 hs => hs) rfl rfl (by kernel_rfl) (q_fieldAddr 1 rfl Tryz.runUnderlying79 rfl Tryz.sizeOf3 (by decide) rfl) (ah_t 6 (fun w9 hs => hs) rfl rfl (by kernel_rfl) (q_load (i := 0) rfl rfl rfl Tryz.isAgg3) ?_)
      refine ah_t 7 (fun w9 hs => hs) rfl rfl (by kernel_rfl) (q_fieldAddr 1 rfl Tryz.runUnderlying79 rfl Tryz.sizeOf3 (by decide) rfl) (ah_t 8 (fun w9 hs => hs) rfl rfl (by kernel_rfl) (q_load (i := 0) rfl rfl rfl Tryz.isAgg3) (ah_t 9 (fun w9 hs => hs) rfl rfl (by kernel_rfl) (q_build (.cons rfl (.cons rfl .nil)) (whe_bl_apiSpan_0_1 _ _ rfl rfl)) ?_))
      refine ah_two 10 11 rfl rfl  (by kernel_rfl) (fun hok6 hcl6 => ?_) (fun hok6 hcl6 => ?_)
      ·refine al_new (fun b => .pointer (some ⟨b, 0, none⟩)) (r_alloc Tryz.zeroValue41 rfl) rfl rfl rfl ?_
       intro b7
       refine al_end (ah_back hok6 hcl6 (fun w9 hs => (hs.tail 1 rfl)) ?_)
       refine ah_one 11 rfl (by kernel_rfl) (fun hok7 hcl7 => ?_)
       refine al_new (fun b => .pointer (some ⟨b, 0, none⟩)) (r_alloc Tryz.zeroValue41 rfl) rfl rfl rfl ?_
       intro b8
       refine al_end (ah_back hok7 hcl7 (fun w9 hs => (hs.tail 2 rfl)) ?_)
       exact ah_to (hS1_0 b7 b8) rfl (by kernel_rfl) ⟨rfl, rfl, rfl, rfl, rfl, rfl, rfl, rfl, rfl, rfl, rfl, rfl, rfl, rfl, rfl, rfl, rfl, rfl, rfl, rfl, rfl, rfl, rfl, rfl, rfl, rfl, rfl, rfl, rfl, rfl, rfl, rfl, rfl, rfl, rfl, rfl, rfl, rfl, trivial⟩ (fun w9 hs => hs)
      ·refine al_new (fun b => .pointer (some ⟨b, 0, none⟩)) (r_alloc Tryz.zeroValue41 rfl) rfl rfl rfl ?_
       intro b9
       refine al_end (ah_back hok6 hcl6 (fun w9 hs => (hs.tail 1 rfl)) ?_)
       refine ah_one 10 rfl (by kernel_rfl) (fun hok8 hcl8 => ?_)
       refine al_new (fun b => .pointer (some ⟨b, 0, none⟩)) (r_alloc Tryz.zeroValue41 rfl) rfl rfl rfl ?_
       intro b10
       refine al_end (ah_back hok8 hcl8 (fun w9 hs => (hs.tail 2 rfl)) ?_)
       exact ah_to (hS1_0 b10 b9) rfl (by kernel_rfl) ⟨rfl, rfl, rfl, rfl, rfl, rfl, rfl, rfl, rfl, rfl, rfl, rfl, rfl, rfl, rfl, rfl, rfl, rfl, rfl, rfl, rfl, rfl, rfl, rfl, rfl, rfl, rfl, rfl, rfl, rfl, rfl, rfl, rfl, rfl, rfl, rfl, rfl, rfl, trivial⟩ (fun w9 hs => hs.pm (.cons (.there (.here)) (.refl)))
  ·have hxe : len ≤ x.1 := by have := of_decide_eq_false h2; omega
   have hlz := hF.1
   have hwe := where_end hc (by omega) hgo
   refine ac_exit (aq_thenE (aq_thenE (aq_hit (aq_then ?_))))
   refine ac_seq (ac_seq (ac_region ?_))
   refine al_p (q_move rfl) (al_p (q_lenS rfl Tryz.runUnderlying49) (al_p (q_eql rfl rfl) (al_end (aq_then ?_))))
   refine ac_cond rfl (fun h5 => ?_) (fun h5 => ?_)
   ·have hln : zs.length = 0 := by have := of_decide_eq_true h5; omega
    refine ac_seq (ac_region ?_)
    refine al_p (q_build .nil (whe_bl_apiSpan_)) (al_p (q_build .nil (whe_bl_apiSpan_)) (al_p (q_build .nil (whe_bl_apiSpan_)) (al_storeAll (i := 2) rfl rfl rfl rfl Tryz.sizeOf41 rfl rfl .k2 rfl (al_storeAll (i := 1) rfl rfl rfl rfl Tryz.sizeOf41 rfl rfl .k1 rfl ?_))))
    refine al_storeAll (i := 0) rfl rfl rfl rfl Tryz.sizeOf41 rfl rfl .k0 rfl (al_p (q_assign rfl) (al_end (aq_then ?_)))
    refine ac_ret (aq_thenR (retR Tryz.results46 (.agg (i := 2) rfl rfl Tryz.isAgg41 Tryz.sizeOf41 rfl (.agg (i := 1) rfl rfl Tryz.isAgg41 Tryz.sizeOf41 rfl (.agg (i := 0) rfl rfl Tryz.isAgg41 Tryz.sizeOf41 rfl (.tmp rfl .nil)))) .two (fun w9 hs => ?_)))
    rw [hwe, if_pos hln]; exact ⟨rfl, hs.below⟩
   ·have hln : zs.length ≠ 0 := by have := of_decide_eq_false h5; omega
    refine ac_skip (aq_then (ac_seq (ac_draw 6 (by kernel_rfl) (by kernel_rfl) ?_)))
    refine ah_t 0 (fun w9 hs => hs) rfl rfl (by kernel_rfl) (q_loadAll (i := 2) rfl rfl Tryz.isAgg41 Tryz.sizeOf41 rfl) (ah_t 1 (fun w9 hs => hs) rfl rfl (by kernel_rfl) (q_loadAll (i := 1) rfl rfl Tryz.isAgg41 Tryz.sizeOf41 rfl) (ah_t 2 (fun w9 hs => hs) rfl rfl (by kernel_rfl) (q_loadAll (i := 0) rfl rfl Tryz.isAgg41 Tryz.sizeOf41 rfl) (ah_one 3 rfl (by kernel_rfl) (fun hok9 hcl9 => ?_))))
    refine al_storeAll (i := 2) rfl rfl rfl rfl Tryz.sizeOf41 rfl rfl .k2 rfl (al_end (ah_back hok9 hcl9 (fun w9 hs => hs) ?_))
    refine ah_one 4 rfl (by kernel_rfl) (fun hok10 hcl10 => ?_)
    refine al_storeAll (i := 1) rfl rfl rfl rfl Tryz.sizeOf41 rfl rfl .k1 rfl (al_end (ah_back hok10 hcl10 (fun w9 hs => hs) ?_))
    refine ah_one 5 rfl (by kernel_rfl) (fun hok11 hcl11 => ?_)
    refine al_storeAll (i := 0) rfl rfl rfl rfl Tryz.sizeOf41 rfl rfl .k0 rfl (al_end (ah_back hok11 hcl11 (fun w9 hs => hs) ?_))
    refine ah_one 6 rfl (by kernel_rfl) (fun hok12 hcl12 => ?_)
    refine al_p (q_assign rfl) (al_end (ah_last (by kernel_rfl) ?_))
    refine aq_then (ac_ret (retR Tryz.results46 (.agg (i := 2) rfl rfl Tryz.isAgg41 Tryz.sizeOf41 rfl (.agg (i := 1) rfl rfl Tryz.isAgg41 Tryz.sizeOf41 rfl (.agg (i := 0) rfl rfl Tryz.isAgg41 Tryz.sizeOf41 rfl (.tmp rfl .nil)))) .two (fun w9 hs => ?_)))
    rw [hwe, if_neg hln]; exact ⟨rfl, hs.below⟩
end
end Go.Proofs.YtapldonpflgnfaaGreatDoor
