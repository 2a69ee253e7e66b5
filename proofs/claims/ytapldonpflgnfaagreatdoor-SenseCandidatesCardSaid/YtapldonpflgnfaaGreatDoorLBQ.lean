import Derived.Test.YtapldonpflgnfaaGreatDoorLBA
import Derived.Test.YtapldonpflgnfaaGreatDoorLBF
import Derived.Test.YtapldonpflgnfaaGreatDoorLBP
import Derived.Test.YtapldonpflgnfaaGreatDoorRows
import Derived.KernelRfl
import Derived.Laws.StructEq
namespace Go.Proofs.YtapldonpflgnfaaGreatDoor
set_option linter.unusedVariables false
set_option linter.unusedSimpArgs false
section
open Go.RowKit
theorem okW_eq9 {M : MachD} (h : checkC M = 0) (x : Tri) : okW M x = (wthn x.1 0 (M.grid.nr * M.grid.nz - 1) && vld x.2.1 x.2.2) := by
 unfold okW cellL
 rw [if_pos h]
 cases wthn x.1 0 (M.grid.nr * M.grid.nz - 1) <;> simp
theorem goW_none9 {M : MachD} {l : List Tri} {k : Nat} {x : Tri} (h : l[k]? = some x) (hx : okW M x = false) : ∀ (b : Bool) (s : St), goW M b s l = none := by
 induction l generalizing k with
 | nil => simp at h
 | cons y r ih =>
  intro b s
  unfold goW
  cases k with
  | zero =>
   obtain rfl : y = x := by simpa using h
   rw [hx]; simp
  | succ k =>
   have h' : r[k]? = some x := by simpa using h
   cases okW M y
   ·simp
   ·simp [ih h']
theorem whf_bl_apiSpan_0_1 (a0 a1 : Value) (ha0 : a0.oneCell' = true) (ha1 : a1.oneCell' = true) : ∀ w, (Instr.build 41 #[(0, a0), (1, a1)]).run Tryz.prog w = .ok (.agg #[a0, a1]) w := by
 have ea0 : a0.cells = #[a0] := cells_one ha0
 have ea1 : a1.cells = #[a1] := cells_one ha1
 intro w; simp [Instr.build, Instr.fill, cells_agg, Tryz.runUnderlying41, Tryz.zeroValue41, Tryz.sizeOf3, ea0, ea1]
set_option maxRecDepth 100000 in
theorem rwhere9_any (R : MachR) (M : MachD) (F : Option Addr) (len cap : Nat) (zs : List Tri) (w : World) (hM : IsM w R M) (hF : IsT 3 pairCells w F len zs) (hl : len ≤ 1000000000000000) : Calls Tryz.prog 47 #[(.agg (machCells R M)), (.slice F len cap)] w (Ret (whereV (whereL M zs)) w) := by
 refine calls_ax (vs := [(.agg (machCells R M)), (.slice F len cap)]) Tryz.func47 rfl rfl ?_
 refine ac_seq (ac_region ?_)
 refine al_new (fun b => .pointer (some ⟨b, 0, none⟩)) (r_box rfl rfl) rfl rfl rfl ?_
 intro b1
 refine al_new (fun b => .pointer (some ⟨b, 0, none⟩)) (r_alloc Tryz.zeroValue41 rfl) rfl rfl rfl ?_
 intro b2
 refine al_new (fun b => .pointer (some ⟨b, 0, none⟩)) (r_alloc Tryz.zeroValue41 rfl) rfl rfl rfl ?_
 intro b3
 refine al_new (fun b => .pointer (some ⟨b, 0, none⟩)) (r_alloc Tryz.zeroValue41 rfl) rfl rfl rfl ?_
 intro b4
 refine al_p (q_assign rfl) (al_end (aq_then ?_))
 refine ac_seq (ac_region ?_)
 refine al_new (fun b => .pointer (some ⟨b, 0, none⟩)) (r_alloc Tryz.zeroValue41 rfl) rfl rfl rfl ?_
 intro b5
 refine al_end (aq_then ?_)
 refine ac_seq (ac_seq (ac_region ?_))
 refine al_p (q_loadAll (i := 4) rfl rfl Tryz.isAgg29 Tryz.sizeOf29 rfl) (al_call Tryz.call73 (.cons rfl .nil) rfl rfl (fun w1 hs1 => ?_))
 refine (rcheck_any R M _ (hM.below hs1.below)).mono ?_
 rintro e u1 ⟨rfl, hb_1⟩
 refine ⟨_, rfl, hb_1, ?_⟩
 clear hs1
 refine al_p (q_neq rfl rfl) (al_end (aq_then ?_))
 refine ac_cond rfl (fun h1 => ?_) (fun h1 => ?_)
 ·have hc : checkC M ≠ 0 := by simpa using h1
  refine ac_seq (aq_pm (.cons (.there (.here)) ( .cons (.there (.here)) ( .cons (.there (.here)) (.refl)))) ?_)
  refine ac_drawK 3 6 rfl (by kernel_rfl) (by kernel_rfl) ?_
  refine ah_t 0 (fun w9 hs => (hs.tail 3 rfl)) rfl rfl (by kernel_rfl) (q_loadAll (i := 0) rfl rfl Tryz.isAgg41 Tryz.sizeOf41 rfl) (ah_t 1 (fun w9 hs => (hs.tail 3 rfl)) rfl rfl (by kernel_rfl) (q_loadAll (i := 0) rfl rfl Tryz.isAgg41 Tryz.sizeOf41 rfl) (ah_t 2 (fun w9 hs => (hs.tail 3 rfl)) rfl rfl (by kernel_rfl) (q_loadAll (i := 0) rfl rfl Tryz.isAgg41 Tryz.sizeOf41 rfl) (ah_one 3 rfl (by kernel_rfl) (fun hok1 hcl1 => ?_))))
  refine al_storeAll (i := 2) rfl rfl rfl rfl Tryz.sizeOf41 rfl rfl .k2 rfl (al_end (ah_back hok1 hcl1 (fun w9 hs => (hs.tail 3 rfl)) ?_))
  refine ah_one 4 rfl (by kernel_rfl) (fun hok2 hcl2 => ?_)
  refine al_storeAll (i := 1) rfl rfl rfl rfl Tryz.sizeOf41 rfl rfl .k1 rfl (al_end (ah_back hok2 hcl2 (fun w9 hs => (hs.tail 3 rfl)) ?_))
  refine ah_one 5 rfl (by kernel_rfl) (fun hok3 hcl3 => ?_)
  refine al_storeAll (i := 0) rfl rfl rfl rfl Tryz.sizeOf41 rfl rfl .k0 rfl (al_end (ah_back hok3 hcl3 (fun w9 hs => (hs.tail 3 rfl)) ?_))
  refine ah_t 6 (fun w9 hs => (hs.tail 3 rfl)) rfl rfl (by kernel_rfl) (q_assign rfl) (ah_done (by kernel_rfl) ?_)
  refine aq_then (ac_ret (aq_thenR (retR Tryz.results47 (.agg (i := 2) rfl rfl Tryz.isAgg41 Tryz.sizeOf41 rfl (.agg (i := 1) rfl rfl Tryz.isAgg41 Tryz.sizeOf41 rfl (.agg (i := 0) rfl rfl Tryz.isAgg41 Tryz.sizeOf41 rfl (.tmp rfl .nil)))) .two (fun w9 hs => ?_))))
  unfold whereL; rw [if_neg hc]; exact ⟨rfl, hs.below⟩
 ·have hc : checkC M = 0 := by simpa using h1
  have hcn : cellsN M = M.grid.nr * M.grid.nz := if_pos hc
  have hfc := fine_cells (check_fine hc)
  refine ac_skip (aq_then (ac_seq (ac_seq (ac_region ?_))))
  refine al_p (q_assign rfl) (al_end (aq_then ?_))
  refine ac_block (ac_loop (β := Nat) (fun x => x ≤ len ∧ ∀ (j : Nat) (y : Tri), j < x → zs[j]? = some y → okW M y = true) (fun x => [(1, (.slice F len cap)), (2, (.pointer (some ⟨b1, 0, none⟩))), (4, (.pointer (some ⟨b2, 0, none⟩))), (5, (.pointer (some ⟨b3, 0, none⟩))), (6, (.pointer (some ⟨b4, 0, none⟩))), (7, (.int .i64 0)), (8, (.pointer (some ⟨b5, 0, none⟩))), (9, (.int .i64 (x : Int)))]) (fun _ => _) (fun x => [(b5, _), (b4, _), (b3, _), (b2, _), (b1, _)]) (fun x => len - x) 0 ⟨by omega, fun j y h => by omega⟩ ⟨rfl, rfl, rfl, rfl, rfl, rfl, rfl, rfl, trivial⟩ (fun w9 hs => hs) (fun x hF1 => ?_))
  obtain ⟨hxa, hall⟩ := hF1
  refine ac_seq (ac_seq (ac_region ?_))
  refine al_p (q_move rfl) (al_p (q_move rfl) (al_p (q_lenS rfl Tryz.runUnderlying49) (al_p (q_lss rfl rfl) (al_end (aq_then ?_)))))
  refine ac_cond rfl (fun h2 => ?_) (fun h2 => ?_)
  ·have hxl : x < len := by have := of_decide_eq_true h2; omega
   obtain ⟨b11, o11, hA1, hlt1, hget1⟩ := hF.2 (by omega)
   have hx1 := tri_get (l := zs) (k := x) (by have := hF.1; omega)
   refine ac_skip (aq_then (ac_seq (ac_block (ac_seq ?_))))
   refine ac_draw 18 (by kernel_rfl) (by kernel_rfl) ?_
   refine ah_t 0 (fun w9 hs => hs) rfl rfl (by kernel_rfl) (q_move rfl) (ah_t 1 (fun w9 hs => hs) rfl rfl (by kernel_rfl) (q_move rfl) ?_)
   refine ah_t 2 (fun w9 hs => hs) rfl rfl (by kernel_rfl) (q_indexAddrA (i := x) (o11 + x * 3 + 0) hA1 rfl rfl rfl (by omega) Tryz.runUnderlying49 Tryz.sizeOf73 rfl) ?_
   refine ah_t 3 (fun w9 hs => hs) rfl rfl (by kernel_rfl) (q_fieldAddr (o11 + x * 3 + 0) rfl Tryz.runUnderlying73 rfl Tryz.sizeOf3 (by decide) rfl) (ah_t 4 (fun w9 hs => hs) rfl rfl (by kernel_rfl) (q_loadX rfl Tryz.isAgg3 (fun w9 hs => (hs.below.cell (p := ⟨_, _, none⟩) hlt1).trans ((hget1 x _ hx1) 0 _ rfl))) (ah_t 5 (fun w9 hs => hs) rfl rfl (by kernel_rfl) (q_loadAll (i := 4) rfl rfl Tryz.isAgg29 Tryz.sizeOf29 rfl) (ah_one 6 rfl (by kernel_rfl) (fun hok4 hcl4 => ?_))))
   refine al_call Tryz.call34 (.cons rfl .nil) rfl rfl (fun w2 hs2 => ?_)
   refine (hcn ▸ rcellsN_any R M _ (hM.below hs2.below)).mono ?_
   rintro e u2 ⟨rfl, hb_2⟩
   refine ⟨_, rfl, hb_2, ?_⟩
   clear hs2
   refine al_end (ah_back hok4 hcl4 (fun w9 hs => (hs.fewer 1 rfl)) ?_)
   refine ah_t 7 (fun w9 hs => (hs.fewer 1 rfl)) rfl rfl (by kernel_rfl) (q_sub rfl rfl (by omega)) (ah_one 8 rfl (by kernel_rfl) (fun hok5 hcl5 => ?_))
   refine al_call Tryz.call33 (.cons rfl (.cons rfl (.cons rfl .nil))) rfl rfl (fun w3 hs3 => ?_)
   refine (rwithin4b_any (zs.getD x (0, 0, 0)).1 0 (M.grid.nr * M.grid.nz - 1) _).mono ?_
   rintro e u3 ⟨rfl, rfl⟩
   refine ⟨_, rfl, (Below.refl _ _), ?_⟩
   clear hs3
   refine al_end (ah_back hok5 hcl5 (fun w9 hs => (hs.fewer 2 rfl)) ?_)
   refine ah_t 9 (fun w9 hs => (hs.fewer 2 rfl)) rfl rfl (by kernel_rfl) (q_not rfl) (ah_t 10 (fun w9 hs => (hs.fewer 2 rfl)) rfl rfl (by kernel_rfl) (q_move rfl) ?_)
   refine ah_split 40 rfl (fun hb1 => ?_) (fun hb1 => ?_)
   ·have h9 : wthn (zs.getD x (0, 0, 0)).1 0 (M.grid.nr * M.grid.nz - 1) = false := by simpa using hb1
    have hbd : okW M (zs.getD x (0, 0, 0)) = false := by rw [okW_eq9 hc, h9]; rfl
    refine ah_s 11 (fun w9 hs => (hs.fewer 2 rfl)) rfl rfl (by kernel_rfl) (ah_s 12 (fun w9 hs => (hs.fewer 2 rfl)) rfl rfl (by kernel_rfl) (ah_s 13 (fun w9 hs => (hs.fewer 2 rfl)) rfl rfl (by kernel_rfl) (ah_s 14 (fun w9 hs => (hs.fewer 2 rfl)) rfl rfl (by kernel_rfl) (ah_s 15 (fun w9 hs => (hs.fewer 2 rfl)) rfl rfl (by kernel_rfl) ?_))))
    refine ah_s 16 (fun w9 hs => (hs.fewer 2 rfl)) rfl rfl (by kernel_rfl) (ah_s 17 (fun w9 hs => (hs.fewer 2 rfl)) rfl rfl (by kernel_rfl) (ah_t 18 (fun w9 hs => (hs.fewer 2 rfl)) rfl rfl (by kernel_rfl) (q_pickT rfl rfl) (ah_done (by kernel_rfl) ?_)))
    refine aq_then (ac_condT rfl (ac_seq (aq_pm (.cons (.there (.here)) ( .cons (.there (.here)) ( .cons (.there (.here)) (.refl)))) ?_)))
    refine ac_drawK 3 6 rfl (by kernel_rfl) (by kernel_rfl) ?_
    refine ah_t 0 (fun w9 hs => (hs.tail 3 rfl)) rfl rfl (by kernel_rfl) (q_loadAll (i := 0) rfl rfl Tryz.isAgg41 Tryz.sizeOf41 rfl) (ah_t 1 (fun w9 hs => (hs.tail 3 rfl)) rfl rfl (by kernel_rfl) (q_loadAll (i := 0) rfl rfl Tryz.isAgg41 Tryz.sizeOf41 rfl) (ah_t 2 (fun w9 hs => (hs.tail 3 rfl)) rfl rfl (by kernel_rfl) (q_loadAll (i := 0) rfl rfl Tryz.isAgg41 Tryz.sizeOf41 rfl) (ah_one 3 rfl (by kernel_rfl) (fun hok6 hcl6 => ?_))))
    refine al_storeAll (i := 2) rfl rfl rfl rfl Tryz.sizeOf41 rfl rfl .k2 rfl (al_end (ah_back hok6 hcl6 (fun w9 hs => (hs.tail 3 rfl)) ?_))
    refine ah_one 4 rfl (by kernel_rfl) (fun hok7 hcl7 => ?_)
    refine al_storeAll (i := 1) rfl rfl rfl rfl Tryz.sizeOf41 rfl rfl .k1 rfl (al_end (ah_back hok7 hcl7 (fun w9 hs => (hs.tail 3 rfl)) ?_))
    refine ah_one 5 rfl (by kernel_rfl) (fun hok8 hcl8 => ?_)
    refine al_storeAll (i := 0) rfl rfl rfl rfl Tryz.sizeOf41 rfl rfl .k0 rfl (al_end (ah_back hok8 hcl8 (fun w9 hs => (hs.tail 3 rfl)) ?_))
    refine ah_t 6 (fun w9 hs => (hs.tail 3 rfl)) rfl rfl (by kernel_rfl) (q_assign rfl) (ah_done (by kernel_rfl) ?_)
    refine aq_then (ac_ret (aq_inR (aq_thenR (aq_thenR ?_))))
    refine aq_inR (aq_thenR (retR Tryz.results47 (.agg (i := 2) rfl rfl Tryz.isAgg41 Tryz.sizeOf41 rfl (.agg (i := 1) rfl rfl Tryz.isAgg41 Tryz.sizeOf41 rfl (.agg (i := 0) rfl rfl Tryz.isAgg41 Tryz.sizeOf41 rfl (.tmp rfl .nil)))) .two (fun w9 hs => ?_)))
    rw [where_bad (goW_none9 hx1 hbd _ _)]; exact ⟨rfl, hs.below⟩
   ·have hwi : wthn (zs.getD x (0, 0, 0)).1 0 (M.grid.nr * M.grid.nz - 1) = true := by simpa using hb1
    refine ah_t 11 (fun w9 hs => (hs.fewer 2 rfl)) rfl rfl (by kernel_rfl) (q_move rfl) (ah_t 12 (fun w9 hs => (hs.fewer 2 rfl)) rfl rfl (by kernel_rfl) (q_move rfl) ?_)
    refine ah_t 13 (fun w9 hs => (hs.fewer 2 rfl)) rfl rfl (by kernel_rfl) (q_indexAddrA (i := x) (o11 + x * 3 + 0) hA1 rfl rfl rfl (by omega) Tryz.runUnderlying49 Tryz.sizeOf73 rfl) ?_
    refine ah_t 14 (fun w9 hs => (hs.fewer 2 rfl)) rfl rfl (by kernel_rfl) (q_fieldAddr (o11 + x * 3 + 1) rfl Tryz.runUnderlying73 rfl Tryz.sizeOf41 (by decide) rfl) (ah_t 15 (fun w9 hs => (hs.fewer 2 rfl)) rfl rfl (by kernel_rfl) (q_loadXs (((pairCells (zs.getD x (0, 0, 0))).drop 1).take 2) rfl Tryz.isAgg41 Tryz.sizeOf41 (fun w9 hs j9 v9 h9 => by rw [addr_add]; have h8 := (hs.below.cell (p := ⟨_, _, none⟩) hlt1).trans ((hget1 x _ hx1) (1 + j9) v9 (sub_get h9)); rwa [← Nat.add_assoc] at h8) rfl) (ah_one 16 rfl (by kernel_rfl) (fun hok9 hcl9 => ?_)))
    refine al_call Tryz.call81 (.cons rfl .nil) rfl rfl (fun w4 hs4 => ?_)
    refine (rvalid_any (zs.getD x (0, 0, 0)).2.1 (zs.getD x (0, 0, 0)).2.2 _).mono ?_
    rintro e u4 ⟨rfl, hb_4⟩
    refine ⟨_, rfl, hb_4, ?_⟩
    clear hs4
    refine al_end (ah_back hok9 hcl9 (fun w9 hs => (hs.fewer 3 rfl)) ?_)
    refine ah_t 17 (fun w9 hs => (hs.fewer 3 rfl)) rfl rfl (by kernel_rfl) (q_not rfl) (ah_t 18 (fun w9 hs => (hs.fewer 3 rfl)) rfl rfl (by kernel_rfl) (q_pickF rfl rfl) (ah_done (by kernel_rfl) ?_))
    refine aq_then ?_
    refine ac_cond rfl (fun h3 => ?_) (fun h3 => ?_)
    ·have h9 : vld (zs.getD x (0, 0, 0)).2.1 (zs.getD x (0, 0, 0)).2.2 = false := by simpa using h3
     have hbd : okW M (zs.getD x (0, 0, 0)) = false := by rw [okW_eq9 hc, h9, Bool.and_false]
     refine ac_seq (aq_pm (.cons (.there (.here)) ( .cons (.there (.here)) ( .cons (.there (.here)) (.refl)))) ?_)
     refine ac_drawK 3 6 rfl (by kernel_rfl) (by kernel_rfl) ?_
     refine ah_t 0 (fun w9 hs => (hs.tail 3 rfl)) rfl rfl (by kernel_rfl) (q_loadAll (i := 0) rfl rfl Tryz.isAgg41 Tryz.sizeOf41 rfl) (ah_t 1 (fun w9 hs => (hs.tail 3 rfl)) rfl rfl (by kernel_rfl) (q_loadAll (i := 0) rfl rfl Tryz.isAgg41 Tryz.sizeOf41 rfl) (ah_t 2 (fun w9 hs => (hs.tail 3 rfl)) rfl rfl (by kernel_rfl) (q_loadAll (i := 0) rfl rfl Tryz.isAgg41 Tryz.sizeOf41 rfl) (ah_one 3 rfl (by kernel_rfl) (fun hok10 hcl10 => ?_))))
     refine al_storeAll (i := 2) rfl rfl rfl rfl Tryz.sizeOf41 rfl rfl .k2 rfl (al_end (ah_back hok10 hcl10 (fun w9 hs => (hs.tail 3 rfl)) ?_))
     refine ah_one 4 rfl (by kernel_rfl) (fun hok11 hcl11 => ?_)
     refine al_storeAll (i := 1) rfl rfl rfl rfl Tryz.sizeOf41 rfl rfl .k1 rfl (al_end (ah_back hok11 hcl11 (fun w9 hs => (hs.tail 3 rfl)) ?_))
     refine ah_one 5 rfl (by kernel_rfl) (fun hok12 hcl12 => ?_)
     refine al_storeAll (i := 0) rfl rfl rfl rfl Tryz.sizeOf41 rfl rfl .k0 rfl (al_end (ah_back hok12 hcl12 (fun w9 hs => (hs.tail 3 rfl)) ?_))
     refine ah_t 6 (fun w9 hs => (hs.tail 3 rfl)) rfl rfl (by kernel_rfl) (q_assign rfl) (ah_done (by kernel_rfl) ?_)
     refine aq_then (ac_ret (aq_inR (aq_thenR (aq_thenR ?_))))
     refine aq_inR (aq_thenR (retR Tryz.results47 (.agg (i := 2) rfl rfl Tryz.isAgg41 Tryz.sizeOf41 rfl (.agg (i := 1) rfl rfl Tryz.isAgg41 Tryz.sizeOf41 rfl (.agg (i := 0) rfl rfl Tryz.isAgg41 Tryz.sizeOf41 rfl (.tmp rfl .nil)))) .two (fun w9 hs => ?_)))
     rw [where_bad (goW_none9 hx1 hbd _ _)]; exact ⟨rfl, hs.below⟩
    ·have hvl : vld (zs.getD x (0, 0, 0)).2.1 (zs.getD x (0, 0, 0)).2.2 = true := by simpa using h3
     have hok : okW M (zs.getD x (0, 0, 0)) = true := by rw [okW_eq9 hc, hwi, hvl]; rfl
     refine ac_skip (aq_inN (aq_then (ac_region (al_p (q_move rfl) ?_))))
     refine al_p (q_add rfl rfl (by omega)) (al_p (q_assign rfl) (al_end (aq_then ?_)))
     skip
     refine aq_round (x + 1) (by omega) ⟨by omega, fun j y hj hy => by rcases Nat.lt_or_ge j x with g | g; exact hall j y g hy; rw [show j = x from by omega, hx1] at hy; cases hy; exact hok⟩ ⟨rfl, rfl, rfl, rfl, rfl, rfl, rfl, rfl, trivial⟩ (fun w9 hs => (hs.fewer 3 rfl))
  ·have hlz := hF.1
   have hall2 : ∀ (j : Nat) (y : Tri), zs[j]? = some y → okW M y = true := fun j y hj => hall j y (by have := of_decide_eq_false h2; have := (List.getElem?_eq_some_iff.1 hj).1; omega) hj
   refine ac_exit (aq_thenE (aq_thenE (aq_hit (aq_then ?_))))
   refine ac_seq (ac_seq (ac_region ?_))
   refine al_p (q_move rfl) (al_p (q_lenS rfl Tryz.runUnderlying49) (al_p (q_eql rfl rfl) (al_end (aq_then ?_))))
   refine ac_cond rfl (fun h4 => ?_) (fun h4 => ?_)
   ·have hln : zs.length = 0 := by have := of_decide_eq_true h4; omega
    refine ac_seq (aq_pm (.cons (.there (.here)) ( .cons (.there (.here)) ( .cons (.there (.here)) (.refl)))) ?_)
    refine ac_drawK 3 6 rfl (by kernel_rfl) (by kernel_rfl) ?_
    refine ah_t 0 (fun w9 hs => (hs.tail 3 rfl)) rfl rfl (by kernel_rfl) (q_loadAll (i := 0) rfl rfl Tryz.isAgg41 Tryz.sizeOf41 rfl) (ah_t 1 (fun w9 hs => (hs.tail 3 rfl)) rfl rfl (by kernel_rfl) (q_loadAll (i := 0) rfl rfl Tryz.isAgg41 Tryz.sizeOf41 rfl) (ah_t 2 (fun w9 hs => (hs.tail 3 rfl)) rfl rfl (by kernel_rfl) (q_loadAll (i := 0) rfl rfl Tryz.isAgg41 Tryz.sizeOf41 rfl) (ah_one 3 rfl (by kernel_rfl) (fun hok13 hcl13 => ?_))))
    refine al_storeAll (i := 2) rfl rfl rfl rfl Tryz.sizeOf41 rfl rfl .k2 rfl (al_end (ah_back hok13 hcl13 (fun w9 hs => (hs.tail 3 rfl)) ?_))
    refine ah_one 4 rfl (by kernel_rfl) (fun hok14 hcl14 => ?_)
    refine al_storeAll (i := 1) rfl rfl rfl rfl Tryz.sizeOf41 rfl rfl .k1 rfl (al_end (ah_back hok14 hcl14 (fun w9 hs => (hs.tail 3 rfl)) ?_))
    refine ah_one 5 rfl (by kernel_rfl) (fun hok15 hcl15 => ?_)
    refine al_storeAll (i := 0) rfl rfl rfl rfl Tryz.sizeOf41 rfl rfl .k0 rfl (al_end (ah_back hok15 hcl15 (fun w9 hs => (hs.tail 3 rfl)) ?_))
    refine ah_t 6 (fun w9 hs => (hs.tail 3 rfl)) rfl rfl (by kernel_rfl) (q_assign rfl) (ah_done (by kernel_rfl) ?_)
    refine aq_then (ac_ret (aq_thenR (retR Tryz.results47 (.agg (i := 2) rfl rfl Tryz.isAgg41 Tryz.sizeOf41 rfl (.agg (i := 1) rfl rfl Tryz.isAgg41 Tryz.sizeOf41 rfl (.agg (i := 0) rfl rfl Tryz.isAgg41 Tryz.sizeOf41 rfl (.tmp rfl .nil)))) .two (fun w9 hs => ?_))))
    rw [show whereL M zs = (.zero, 8) from by unfold whereL; rw [if_pos hc]; obtain rfl := List.eq_nil_of_length_eq_zero hln; rfl]; exact ⟨rfl, hs.below⟩
   ·have hln : zs.length ≠ 0 := by have := of_decide_eq_false h4; omega
    refine ac_skip (aq_then (ac_seq (ac_region ?_)))
    refine al_new (fun b => .pointer (some ⟨b, 0, none⟩)) (r_alloc Tryz.zeroValue41 rfl) rfl rfl rfl ?_
    intro b6
    refine al_new (fun b => .pointer (some ⟨b, 0, none⟩)) (r_alloc Tryz.zeroValue41 rfl) rfl rfl rfl ?_
    intro b7
    refine al_new (fun b => .pointer (some ⟨b, 0, none⟩)) (r_alloc Tryz.zeroValue41 rfl) rfl rfl rfl ?_
    intro b8
    refine al_end (aq_then ?_)
    refine ac_seq (ac_seq (ac_region ?_))
    refine al_p (q_assign rfl) (al_end (aq_then ?_))
    refine ac_block (ac_loop (β := Nat × St) (fun x => x.1 ≤ len ∧ (x.1 = 0 → x.2 = .zero) ∧ (x.1 ≠ 0 → x.2.ok = true) ∧ goW M (decide (x.1 = 0)) x.2 (zs.drop x.1) = goW M true .zero zs) (fun x => [(1, (.slice F len cap)), (2, (.pointer (some ⟨b1, 0, none⟩))), (4, (.pointer (some ⟨b2, 0, none⟩))), (5, (.pointer (some ⟨b3, 0, none⟩))), (6, (.pointer (some ⟨b4, 0, none⟩))), (7, (.int .i64 0)), (10, (.pointer (some ⟨b6, 0, none⟩))), (11, (.pointer (some ⟨b7, 0, none⟩))), (12, (.pointer (some ⟨b8, 0, none⟩))), (13, (.int .i64 (x.1 : Int)))]) (fun _ => _) (fun x => [(b8, .cells [.int .i64 x.2.c1, .int .i64 x.2.c2]), (b7, .cells [.int .i64 x.2.z1, .int .i64 x.2.z2]), (b6, .cells [.int .i64 x.2.r1, .int .i64 x.2.r2]), (b5, _), (b4, _), (b3, _), (b2, _), (b1, _)]) (fun x => len - x.1) (0, .zero) ⟨by simp, fun _ => rfl, fun h => absurd rfl h, rfl⟩ ⟨rfl, rfl, rfl, rfl, rfl, rfl, rfl, rfl, rfl, rfl, trivial⟩ (fun w9 hs => hs) (fun x hF2 => ?_))
    obtain ⟨hxa, hz0, hzk, hgo⟩ := hF2
    refine ac_seq (ac_seq (ac_region ?_))
    refine al_p (q_move rfl) (al_p (q_move rfl) (al_p (q_lenS rfl Tryz.runUnderlying49) (al_p (q_lss rfl rfl) (al_end (aq_then ?_)))))
    refine ac_cond rfl (fun h5 => ?_) (fun h5 => ?_)
    ·have hxl : x.1 < len := by have := of_decide_eq_true h5; omega
     obtain ⟨b11, o11, hA1, hlt1, hget1⟩ := hF.2 (by omega)
     have hx1 := tri_get (l := zs) (k := x.1) (by have := hF.1; omega)
     have hok := hall2 _ _ hx1
     obtain ⟨hcl, hvl⟩ := okW_iff.1 hok
     obtain ⟨hvx, hvy⟩ := cellL_vld hcl
     refine ac_skip (aq_then (ac_seq (ac_block (ac_seq ?_))))
     refine ac_draw 12 (by kernel_rfl) (by kernel_rfl) ?_
     refine ah_share (fuel' := 2) (listed' := #[true, true, true, true, true, true, true, true, true, true, true, false, false]) (fun K => ∀ (b3001 : Nat), K [(1, (.slice F len cap)), (2, (.pointer (some ⟨b1, 0, none⟩))), (4, (.pointer (some ⟨b2, 0, none⟩))), (5, (.pointer (some ⟨b3, 0, none⟩))), (6, (.pointer (some ⟨b4, 0, none⟩))), (7, (.int .i64 0)), (10, (.pointer (some ⟨b6, 0, none⟩))), (11, (.pointer (some ⟨b7, 0, none⟩))), (12, (.pointer (some ⟨b8, 0, none⟩))), (13, (.int .i64 (x.1 : Int))), (14, (.pointer (some ⟨b3001, 0, none⟩))), (58, (.int .i64 (x.1 : Int))), (59, (.slice F len cap)), (60, (.int .i64 (len : Int))), (65, (.agg (machCells R M))), (66, (.slice F len cap)), (67, (.int .i64 (x.1 : Int))), (68, (.pointer (some ⟨b11, o11 + x.1 * 3 + 0, none⟩))), (69, (.pointer (some ⟨b11, o11 + x.1 * 3 + 0, none⟩))), (70, (.int .i64 (zs.getD x.1 (0, 0, 0)).1)), (72, (.agg #[.int .i64 (cellL M (zs.getD x.1 (0, 0, 0)).1).1, .int .i64 (cellL M (zs.getD x.1 (0, 0, 0)).1).2.1])), (73, (.int .i64 (cellL M (zs.getD x.1 (0, 0, 0)).1).2.2))] [(b3001, .cells [(.int .i64 0), (.int .i64 0)]), (b8, .cells [.int .i64 x.2.c1, .int .i64 x.2.c2]), (b7, .cells [.int .i64 x.2.z1, .int .i64 x.2.z2]), (b6, .cells [.int .i64 x.2.r1, .int .i64 x.2.r2]), (b5, .cells [(.int .i64 0), (.int .i64 0)]), (b4, .cells [(.int .i64 0), (.int .i64 0)]), (b3, .cells [(.int .i64 0), (.int .i64 0)]), (b2, .cells [(.int .i64 0), (.int .i64 0)]), (b1, .cells (machCells R M).toList)]) ?_ (fun hS1_0 => ?_)
     ·intro b3001
      refine ah_one 11 rfl (by kernel_rfl) (fun hok16 hcl16 => ?_)
      refine al_storeAll (i := 0) rfl rfl rfl rfl Tryz.sizeOf79 rfl rfl .k0 rfl (al_end (ah_back hok16 hcl16 (fun w9 hs => (hs.tail 1 rfl)) ?_))
      refine ah_t 12 (fun w9 hs => (hs.tail 1 rfl)) rfl rfl (by kernel_rfl) (q_assign rfl) (ah_done (by kernel_rfl) ?_)
      refine aq_then (ac_seq (ac_draw 13 (by kernel_rfl) (by kernel_rfl) ?_))
      refine ah_share (fuel' := 2) (listed' := #[true, true, true, true, true, true, true, true, true, true, true, true, false, false]) (fun K => ∀ (b6001 : Nat), ∀ (b8001 : Nat), K [(1, (.slice F len cap)), (2, (.pointer (some ⟨b1, 0, none⟩))), (4, (.pointer (some ⟨b2, 0, none⟩))), (5, (.pointer (some ⟨b3, 0, none⟩))), (6, (.pointer (some ⟨b4, 0, none⟩))), (7, (.int .i64 0)), (10, (.pointer (some ⟨b6, 0, none⟩))), (11, (.pointer (some ⟨b7, 0, none⟩))), (12, (.pointer (some ⟨b8, 0, none⟩))), (13, (.int .i64 (x.1 : Int))), (14, (.pointer (some ⟨b3001, 0, none⟩))), (16, (.pointer (some ⟨b6001, 0, none⟩))), (17, (.pointer (some ⟨b8001, 0, none⟩))), (58, (.int .i64 (x.1 : Int))), (59, (.slice F len cap)), (60, (.int .i64 (len : Int))), (65, (.agg (machCells R M))), (66, (.slice F len cap)), (67, (.int .i64 (x.1 : Int))), (68, (.pointer (some ⟨b11, o11 + x.1 * 3 + 0, none⟩))), (69, (.pointer (some ⟨b11, o11 + x.1 * 3 + 0, none⟩))), (70, (.int .i64 (zs.getD x.1 (0, 0, 0)).1)), (72, (.agg #[.int .i64 (cellL M (zs.getD x.1 (0, 0, 0)).1).1, .int .i64 (cellL M (zs.getD x.1 (0, 0, 0)).1).2.1])), (73, (.int .i64 (cellL M (zs.getD x.1 (0, 0, 0)).1).2.2)), (74, (.pointer (some ⟨b3001, 0, none⟩))), (75, (.int .i64 (cellL M (zs.getD x.1 (0, 0, 0)).1).1)), (76, (.pointer (some ⟨b3001, 0, none⟩))), (77, (.int .i64 (cellL M (zs.getD x.1 (0, 0, 0)).1).1)), (78, (.agg #[(.int .i64 (cellL M (zs.getD x.1 (0, 0, 0)).1).1), (.int .i64 (cellL M (zs.getD x.1 (0, 0, 0)).1).1)])), (79, (.pointer (some ⟨b3001, 1, none⟩))), (80, (.int .i64 (cellL M (zs.getD x.1 (0, 0, 0)).1).2.1)), (81, (.pointer (some ⟨b3001, 1, none⟩))), (82, (.int .i64 (cellL M (zs.getD x.1 (0, 0, 0)).1).2.1)), (83, (.agg #[(.int .i64 (cellL M (zs.getD x.1 (0, 0, 0)).1).2.1), (.int .i64 (cellL M (zs.getD x.1 (0, 0, 0)).1).2.1)]))] [(b8001, .cells [(.int .i64 0), (.int .i64 0)]), (b6001, .cells [(.int .i64 0), (.int .i64 0)]), (b3001, .cells [(.int .i64 (cellL M (zs.getD x.1 (0, 0, 0)).1).1), (.int .i64 (cellL M (zs.getD x.1 (0, 0, 0)).1).2.1)]), (b8, .cells [.int .i64 x.2.c1, .int .i64 x.2.c2]), (b7, .cells [.int .i64 x.2.z1, .int .i64 x.2.z2]), (b6, .cells [.int .i64 x.2.r1, .int .i64 x.2.r2]), (b5, .cells [(.int .i64 0), (.int .i64 0)]), (b4, .cells [(.int .i64 0), (.int .i64 0)]), (b3, .cells [(.int .i64 0), (.int .i64 0)]), (b2, .cells [(.int .i64 0), (.int .i64 0)]), (b1, .cells (machCells R M).toList)]) ?_ (fun hS2_0 => ?_)
      ·intro b6001 b8001
       refine ah_one 12 rfl (by kernel_rfl) (fun hok17 hcl17 => ?_)
       refine al_storeAll (i := 1) rfl rfl rfl rfl Tryz.sizeOf41 rfl rfl .k1 rfl (al_end (ah_back hok17 hcl17 (fun w9 hs => (hs.tail 2 rfl)) ?_))
       refine ah_one 13 rfl (by kernel_rfl) (fun hok18 hcl18 => ?_)
       refine al_storeAll (i := 0) rfl rfl rfl rfl Tryz.sizeOf41 rfl rfl .k0 rfl (al_end (ah_last (by kernel_rfl) ?_))
       refine aq_then (ac_seq (ac_seq (ac_region ?_)))
       refine al_p (q_move rfl) (al_p (q_eql rfl rfl) (al_end (aq_then ?_)))
       refine ac_cond rfl (fun h6 => ?_) (fun h6 => ?_)
       ·have hfst : x.1 = 0 := by have := of_decide_eq_true h6; omega
        refine ac_seq (aq_pm (.cons (.there (.there (.there (.here)))) ( .cons (.there (.there (.there (.here)))) ( .cons (.there (.there (.there (.here)))) (.refl)))) ?_)
        refine ac_drawK 3 9 rfl (by kernel_rfl) (by kernel_rfl) ?_
        refine ah_t 0 (fun w9 hs => (hs.tail 3 rfl)) rfl rfl (by kernel_rfl) (q_loadAll (i := 1) rfl rfl Tryz.isAgg41 Tryz.sizeOf41 rfl) (ah_t 1 (fun w9 hs => (hs.tail 3 rfl)) rfl rfl (by kernel_rfl) (q_loadAll (i := 0) rfl rfl Tryz.isAgg41 Tryz.sizeOf41 rfl) (ah_t 2 (fun w9 hs => (hs.tail 3 rfl)) rfl rfl (by kernel_rfl) (q_move rfl) (ah_t 3 (fun w9 hs => (hs.tail 3 rfl)) rfl rfl (by kernel_rfl) (q_move rfl) ?_)))
        refine ah_t 4 (fun w9 hs => (hs.tail 3 rfl)) rfl rfl (by kernel_rfl) (q_indexAddrA (i := x.1) (o11 + x.1 * 3 + 0) hA1 rfl rfl rfl (by omega) Tryz.runUnderlying49 Tryz.sizeOf73 rfl) ?_
        refine ah_t 5 (fun w9 hs => (hs.tail 3 rfl)) rfl rfl (by kernel_rfl) (q_fieldAddr (o11 + x.1 * 3 + 1) rfl Tryz.runUnderlying73 rfl Tryz.sizeOf41 (by decide) rfl) (ah_t 6 (fun w9 hs => (hs.tail 3 rfl)) rfl rfl (by kernel_rfl) (q_loadXs (((pairCells (zs.getD x.1 (0, 0, 0))).drop 1).take 2) rfl Tryz.isAgg41 Tryz.sizeOf41 (fun w9 hs j9 v9 h9 => by rw [addr_add]; have h8 := (hs.below.cell (p := ⟨_, _, none⟩) hlt1).trans ((hget1 x.1 _ hx1) (1 + j9) v9 (sub_get h9)); rwa [← Nat.add_assoc] at h8) rfl) (ah_one 7 rfl (by kernel_rfl) (fun hok19 hcl19 => ?_)))
        refine al_storeAll (i := 2) rfl rfl rfl rfl Tryz.sizeOf41 rfl rfl .k2 rfl (al_end (ah_back hok19 hcl19 (fun w9 hs => (hs.tail 3 rfl)) ?_))
        refine ah_one 8 rfl (by kernel_rfl) (fun hok20 hcl20 => ?_)
        refine al_storeAll (i := 1) rfl rfl rfl rfl Tryz.sizeOf41 rfl rfl .k1 rfl (al_end (ah_back hok20 hcl20 (fun w9 hs => (hs.tail 3 rfl)) ?_))
        refine ah_one 9 rfl (by kernel_rfl) (fun hok21 hcl21 => ?_)
        refine al_storeAll (i := 0) rfl rfl rfl rfl Tryz.sizeOf41 rfl rfl .k0 rfl (al_end (ah_last (by kernel_rfl) ?_))
        refine aq_then (aq_keepL [1, 2, 4, 5, 6, 7, 10, 11, 12, 13, 14, 16, 17, 58, 59, 60, 65, 66, 67, 68, 69, 70, 72, 73, 74, 75, 76, 77, 78, 79, 80, 81, 82, 83, 84, 85, 86, 87, 88, 89, 90, 91, 92] (.cons rfl (.cons rfl (.cons rfl (.cons rfl (.cons rfl (.cons rfl (.cons rfl (.cons rfl (.cons rfl (.cons rfl (.cons rfl (.cons rfl (.cons rfl (.cons rfl (.cons rfl (.cons rfl (.cons rfl (.cons rfl (.cons rfl (.cons rfl (.cons rfl (.cons rfl (.cons rfl (.cons rfl (.cons rfl (.cons rfl (.cons rfl (.cons rfl (.cons rfl (.cons rfl (.cons rfl (.cons rfl (.cons rfl (.cons rfl (.cons rfl (.cons rfl (.cons rfl (.cons rfl (.cons rfl (.cons rfl (.cons rfl (.cons rfl (.cons rfl .nil))))))))))))))))))))))))))))))))))))))))))) ?_)
        refine ac_exit (aq_thenE (aq_hit (aq_then (aq_pm (.cons (.there (.there (.there (.here)))) ( .cons (.there (.there (.there (.here)))) ( .cons (.there (.there (.there (.here)))) (.refl)))) ?_))))
        refine ac_region (al_p (q_move rfl) ?_)
        refine al_p (q_add rfl rfl (by omega)) (al_p (q_assign rfl) (al_end (aq_then ?_)))
        have hst : stepW M (decide (x.1 = 0)) x.2 (zs.getD x.1 (0, 0, 0)) = ⟨(cellL M (zs.getD x.1 (0, 0, 0)).1).1, (cellL M (zs.getD x.1 (0, 0, 0)).1).1, (cellL M (zs.getD x.1 (0, 0, 0)).1).2.1, (cellL M (zs.getD x.1 (0, 0, 0)).1).2.1, (zs.getD x.1 (0, 0, 0)).2.1, (zs.getD x.1 (0, 0, 0)).2.2⟩ := by
         rw [show decide (x.1 = 0) = true from by simp [hfst]]
         rfl
        have hgo2 := goW_good hx1 hok hgo hst
        have hok2 : (⟨(cellL M (zs.getD x.1 (0, 0, 0)).1).1, (cellL M (zs.getD x.1 (0, 0, 0)).1).1, (cellL M (zs.getD x.1 (0, 0, 0)).1).2.1, (cellL M (zs.getD x.1 (0, 0, 0)).1).2.1, (zs.getD x.1 (0, 0, 0)).2.1, (zs.getD x.1 (0, 0, 0)).2.2⟩ : St).ok = true := by simp only [St.ok, Bool.and_eq_true]; exact ⟨hvx, hvy, hvl⟩
        refine aq_round ((x.1 + 1, ⟨(cellL M (zs.getD x.1 (0, 0, 0)).1).1, (cellL M (zs.getD x.1 (0, 0, 0)).1).1, (cellL M (zs.getD x.1 (0, 0, 0)).1).2.1, (cellL M (zs.getD x.1 (0, 0, 0)).1).2.1, (zs.getD x.1 (0, 0, 0)).2.1, (zs.getD x.1 (0, 0, 0)).2.2⟩)) (by simp only; omega) ⟨by simp only; omega, fun h => by simp only at h; omega, fun _ => hok2, hgo2⟩ ⟨rfl, rfl, rfl, rfl, rfl, rfl, rfl, rfl, rfl, rfl, trivial⟩ (fun w9 hs => (hs.tail 3 rfl))
       ·have hfst : x.1 ≠ 0 := by have := of_decide_eq_false h6; omega
        have hs0 := hzk hfst
        simp only [St.ok, Bool.and_eq_true] at hs0
        obtain ⟨hs1, hs2, hs3⟩ := hs0
        refine ac_skip (aq_then (ac_seq (ac_region ?_)))
        refine al_p (q_loadAll (i := 5) rfl rfl Tryz.isAgg41 Tryz.sizeOf41 rfl) (al_p (q_loadAll (i := 1) rfl rfl Tryz.isAgg41 Tryz.sizeOf41 rfl) (al_call Tryz.call87 (.cons rfl (.cons rfl .nil)) rfl rfl (fun w7 hs7 => ?_)))
        refine (rhull_pair x.2.r1 x.2.r2 (cellL M (zs.getD x.1 (0, 0, 0)).1).1 (cellL M (zs.getD x.1 (0, 0, 0)).1).1 _ hs1 hvx).mono ?_
        rintro e u7 ⟨rfl, hb_7⟩
        refine ⟨_, rfl, hb_7, ?_⟩
        clear hs7
        refine al_p (q_move rfl) (al_p (q_extract rfl rfl) (al_p (q_extract rfl rfl) (al_storeAll (i := 5) rfl rfl rfl rfl Tryz.sizeOf41 rfl rfl .k5 rfl (al_end (aq_then ?_)))))
        refine ac_seq (ac_region ?_)
        refine al_p (q_loadAll (i := 4) rfl rfl Tryz.isAgg41 Tryz.sizeOf41 rfl) (al_p (q_loadAll (i := 0) rfl rfl Tryz.isAgg41 Tryz.sizeOf41 rfl) (al_call Tryz.call87 (.cons rfl (.cons rfl .nil)) rfl rfl (fun w8 hs8 => ?_)))
        refine (rhull_pair x.2.z1 x.2.z2 (cellL M (zs.getD x.1 (0, 0, 0)).1).2.1 (cellL M (zs.getD x.1 (0, 0, 0)).1).2.1 _ hs2 hvy).mono ?_
        rintro e u8 ⟨rfl, hb_8⟩
        refine ⟨_, rfl, hb_8, ?_⟩
        clear hs8
        refine al_p (q_move rfl) (al_p (q_extract rfl rfl) (al_p (q_extract rfl rfl) (al_storeAll (i := 4) rfl rfl rfl rfl Tryz.sizeOf41 rfl rfl .k4 rfl (al_end (aq_then ?_)))))
        refine aq_pm (.cons (.there (.there (.there (.here)))) (.refl)) ?_
        refine ac_drawK 1 11 rfl (by kernel_rfl) (by kernel_rfl) ?_
        refine ah_t 1 (fun w9 hs => (hs.tail 1 rfl)) rfl rfl (by kernel_rfl) (q_move rfl) (ah_t 2 (fun w9 hs => (hs.tail 1 rfl)) rfl rfl (by kernel_rfl) (q_move rfl) ?_)
        refine ah_t 3 (fun w9 hs => (hs.tail 1 rfl)) rfl rfl (by kernel_rfl) (q_indexAddrA (i := x.1) (o11 + x.1 * 3 + 0) hA1 rfl rfl rfl (by omega) Tryz.runUnderlying49 Tryz.sizeOf73 rfl) ?_
        refine ah_t 4 (fun w9 hs => (hs.tail 1 rfl)) rfl rfl (by kernel_rfl) (q_fieldAddr (o11 + x.1 * 3 + 1) rfl Tryz.runUnderlying73 rfl Tryz.sizeOf41 (by decide) rfl) (ah_t 5 (fun w9 hs => (hs.tail 1 rfl)) rfl rfl (by kernel_rfl) (q_loadXs (((pairCells (zs.getD x.1 (0, 0, 0))).drop 1).take 2) rfl Tryz.isAgg41 Tryz.sizeOf41 (fun w9 hs j9 v9 h9 => by rw [addr_add]; have h8 := (hs.below.cell (p := ⟨_, _, none⟩) hlt1).trans ((hget1 x.1 _ hx1) (1 + j9) v9 (sub_get h9)); rwa [← Nat.add_assoc] at h8) rfl) (ah_one 0 rfl (by kernel_rfl) (fun hok22 hcl22 => ?_)))
        refine al_p (q_loadAll (i := 0) rfl rfl Tryz.isAgg41 Tryz.sizeOf41 rfl) (al_end (ah_back hok22 hcl22 (fun w9 hs => (hs.tail 1 rfl)) ?_))
        refine ah_one 6 rfl (by kernel_rfl) (fun hok23 hcl23 => ?_)
        refine al_call Tryz.call87 (.cons rfl (.cons rfl .nil)) rfl rfl (fun w9 hs9 => ?_)
        refine (rhull_pair x.2.c1 x.2.c2 (zs.getD x.1 (0, 0, 0)).2.1 (zs.getD x.1 (0, 0, 0)).2.2 _ hs3 hvl).mono ?_
        rintro e u9 ⟨rfl, hb_9⟩
        refine ⟨_, rfl, hb_9, ?_⟩
        clear hs9
        refine al_end (ah_back hok23 hcl23 (fun w9 hs => ((hs.fewer 1 rfl).tail 1 rfl)) ?_)
        refine ah_t 7 (fun w9 hs => ((hs.fewer 1 rfl).tail 1 rfl)) rfl rfl (by kernel_rfl) (q_move rfl) (ah_t 8 (fun w9 hs => ((hs.fewer 1 rfl).tail 1 rfl)) rfl rfl (by kernel_rfl) (q_extract rfl rfl) (ah_t 9 (fun w9 hs => ((hs.fewer 1 rfl).tail 1 rfl)) rfl rfl (by kernel_rfl) (q_extract rfl rfl) (ah_one 10 rfl (by kernel_rfl) (fun hok24 hcl24 => ?_))))
        refine al_storeAll (i := 0) rfl rfl rfl rfl Tryz.sizeOf41 rfl rfl .k0 rfl (al_end (ah_back hok24 hcl24 (fun w9 hs => ((hs.fewer 1 rfl).tail 1 rfl)) ?_))
        refine ah_done (by kernel_rfl) ?_
        refine aq_inN (aq_then (aq_pm (.cons (.there (.here)) ( .cons (.there (.here)) ( .cons (.there (.here)) (.refl)))) ?_))
        refine ac_region (al_p (q_move rfl) ?_)
        refine al_p (q_add rfl rfl (by omega)) (al_p (q_assign rfl) (al_end (aq_then ?_)))
        have hst : stepW M (decide (x.1 = 0)) x.2 (zs.getD x.1 (0, 0, 0)) = ⟨(min x.2.r1 (cellL M (zs.getD x.1 (0, 0, 0)).1).1), (max x.2.r2 (cellL M (zs.getD x.1 (0, 0, 0)).1).1), (min x.2.z1 (cellL M (zs.getD x.1 (0, 0, 0)).1).2.1), (max x.2.z2 (cellL M (zs.getD x.1 (0, 0, 0)).1).2.1), (min x.2.c1 (zs.getD x.1 (0, 0, 0)).2.1), (max x.2.c2 (zs.getD x.1 (0, 0, 0)).2.2)⟩ := by
         rw [show decide (x.1 = 0) = false from by simp [hfst]]
         rfl
        have hgo2 := goW_good hx1 hok hgo hst
        have hok2 : (⟨(min x.2.r1 (cellL M (zs.getD x.1 (0, 0, 0)).1).1), (max x.2.r2 (cellL M (zs.getD x.1 (0, 0, 0)).1).1), (min x.2.z1 (cellL M (zs.getD x.1 (0, 0, 0)).1).2.1), (max x.2.z2 (cellL M (zs.getD x.1 (0, 0, 0)).1).2.1), (min x.2.c1 (zs.getD x.1 (0, 0, 0)).2.1), (max x.2.c2 (zs.getD x.1 (0, 0, 0)).2.2)⟩ : St).ok = true := by simp only [St.ok, Bool.and_eq_true]; exact ⟨vld_hull hs1 hvx, vld_hull hs2 hvy, vld_hull hs3 hvl⟩
        refine aq_round ((x.1 + 1, ⟨(min x.2.r1 (cellL M (zs.getD x.1 (0, 0, 0)).1).1), (max x.2.r2 (cellL M (zs.getD x.1 (0, 0, 0)).1).1), (min x.2.z1 (cellL M (zs.getD x.1 (0, 0, 0)).1).2.1), (max x.2.z2 (cellL M (zs.getD x.1 (0, 0, 0)).1).2.1), (min x.2.c1 (zs.getD x.1 (0, 0, 0)).2.1), (max x.2.c2 (zs.getD x.1 (0, 0, 0)).2.2)⟩)) (by simp only; omega) ⟨by simp only; omega, fun h => by simp only at h; omega, fun _ => hok2, hgo2⟩ ⟨rfl, rfl, rfl, rfl, rfl, rfl, rfl, rfl, rfl, rfl, trivial⟩ (fun w9 hs => ((hs.fewer 3 rfl).tail 3 rfl))
      ·refine ah_t 0 (fun w9 hs => hs) rfl rfl (by kernel_rfl) (q_fieldAddr 0 rfl Tryz.runUnderlying79 rfl Tryz.sizeOf3 (by decide) rfl) (ah_t 1 (fun w9 hs => hs) rfl rfl (by kernel_rfl) (q_load (i := 0) rfl rfl rfl Tryz.isAgg3) ?_)
       refine ah_t 2 (fun w9 hs => hs) rfl rfl (by kernel_rfl) (q_fieldAddr 0 rfl Tryz.runUnderlying79 rfl Tryz.sizeOf3 (by decide) rfl) (ah_t 3 (fun w9 hs => hs) rfl rfl (by kernel_rfl) (q_load (i := 0) rfl rfl rfl Tryz.isAgg3) (ah_t 4 (fun w9 hs => hs) rfl rfl (by kernel_rfl) (q_build (.cons rfl (.cons rfl .nil)) (whf_bl_apiSpan_0_1 _ _ rfl rfl)) ?_))
       refine ah_t 5 (fun w9 hs => hs) rfl rfl (by kernel_rfl) (q_fieldAddr 1 rfl Tryz.runUnderlying79 rfl Tryz.sizeOf3 (by decide) rfl) (ah_t 6 (fun w9 hs => hs) rfl rfl (by kernel_rfl) (q_load (i := 0) rfl rfl rfl Tryz.isAgg3) ?_)
       refine ah_t 7 (fun w9 hs => hs) rfl rfl (by kernel_rfl) (q_fieldAddr 1 rfl Tryz.runUnderlying79 rfl Tryz.sizeOf3 (by decide) rfl) (ah_t 8 (fun w9 hs => hs) rfl rfl (by kernel_rfl) (q_load (i := 0) rfl rfl rfl Tryz.isAgg3) (ah_t 9 (fun w9 hs => hs) rfl rfl (by kernel_rfl) (q_build (.cons rfl (.cons rfl .nil)) (whf_bl_apiSpan_0_1 _ _ rfl rfl)) ?_))
       refine ah_two 10 11 rfl rfl  (by kernel_rfl) (fun hok25 hcl25 => ?_) (fun hok25 hcl25 => ?_)
       ·refine al_new (fun b => .pointer (some ⟨b, 0, none⟩)) (r_alloc Tryz.zeroValue41 rfl) rfl rfl rfl ?_
        intro b9
        refine al_end (ah_back hok25 hcl25 (fun w9 hs => (hs.tail 1 rfl)) ?_)
        refine ah_one 11 rfl (by kernel_rfl) (fun hok26 hcl26 => ?_)
        refine al_new (fun b => .pointer (some ⟨b, 0, none⟩)) (r_alloc Tryz.zeroValue41 rfl) rfl rfl rfl ?_
        intro b10
        refine al_end (ah_back hok26 hcl26 (fun w9 hs => (hs.tail 2 rfl)) ?_)
        exact ah_to (hS2_0 b9 b10) rfl (by kernel_rfl) ⟨rfl, rfl, rfl, rfl, rfl, rfl, rfl, rfl, rfl, rfl, rfl, rfl, rfl, rfl, rfl, rfl, rfl, rfl, rfl, rfl, rfl, rfl, rfl, rfl, rfl, rfl, rfl, rfl, rfl, rfl, rfl, rfl, rfl, rfl, trivial⟩ (fun w9 hs => hs)
       ·refine al_new (fun b => .pointer (some ⟨b, 0, none⟩)) (r_alloc Tryz.zeroValue41 rfl) rfl rfl rfl ?_
        intro b11
        refine al_end (ah_back hok25 hcl25 (fun w9 hs => (hs.tail 1 rfl)) ?_)
        refine ah_one 10 rfl (by kernel_rfl) (fun hok27 hcl27 => ?_)
        refine al_new (fun b => .pointer (some ⟨b, 0, none⟩)) (r_alloc Tryz.zeroValue41 rfl) rfl rfl rfl ?_
        intro b12
        refine al_end (ah_back hok27 hcl27 (fun w9 hs => (hs.tail 2 rfl)) ?_)
        exact ah_to (hS2_0 b12 b11) rfl (by kernel_rfl) ⟨rfl, rfl, rfl, rfl, rfl, rfl, rfl, rfl, rfl, rfl, rfl, rfl, rfl, rfl, rfl, rfl, rfl, rfl, rfl, rfl, rfl, rfl, rfl, rfl, rfl, rfl, rfl, rfl, rfl, rfl, rfl, rfl, rfl, rfl, trivial⟩ (fun w9 hs => hs.pm (.cons (.there (.here)) (.refl)))
     ·refine ah_t 0 (fun w9 hs => hs) rfl rfl (by kernel_rfl) (q_loadAll (i := 7) rfl rfl Tryz.isAgg29 Tryz.sizeOf29 rfl) (ah_t 1 (fun w9 hs => hs) rfl rfl (by kernel_rfl) (q_move rfl) (ah_t 2 (fun w9 hs => hs) rfl rfl (by kernel_rfl) (q_move rfl) ?_))
      refine ah_t 3 (fun w9 hs => hs) rfl rfl (by kernel_rfl) (q_indexAddrA (i := x.1) (o11 + x.1 * 3 + 0) hA1 rfl rfl rfl (by omega) Tryz.runUnderlying49 Tryz.sizeOf73 rfl) ?_
      refine ah_t 4 (fun w9 hs => hs) rfl rfl (by kernel_rfl) (q_fieldAddr (o11 + x.1 * 3 + 0) rfl Tryz.runUnderlying73 rfl Tryz.sizeOf3 (by decide) rfl) (ah_t 5 (fun w9 hs => hs) rfl rfl (by kernel_rfl) (q_loadX rfl Tryz.isAgg3 (fun w9 hs => (hs.below.cell (p := ⟨_, _, none⟩) hlt1).trans ((hget1 x.1 _ hx1) 0 _ rfl))) ?_)
      refine ah_two 6 10 rfl rfl  (by kernel_rfl) (fun hok28 hcl28 => ?_) (fun hok28 hcl28 => ?_)
      ·refine al_call Tryz.call86 (.cons rfl (.cons rfl .nil)) rfl rfl (fun w10 hs10 => ?_)
       refine (rcell9_any R M (zs.getD x.1 (0, 0, 0)).1 _ (hM.below hs10.below)).mono ?_
       rintro e u10 ⟨rfl, hb_10⟩
       refine ⟨_, rfl, hb_10, ?_⟩
       clear hs10
       refine al_end (ah_back hok28 hcl28 (fun w9 hs => (hs.fewer 1 rfl)) ?_)
       refine ah_few ?_
       refine ah_t 7 (fun w9 hs => hs) rfl rfl (by kernel_rfl) (q_move rfl) (ah_t 8 (fun w9 hs => hs) rfl rfl (by kernel_rfl) (q_extract rfl rfl) (ah_t 9 (fun w9 hs => hs) rfl rfl (by kernel_rfl) (q_extract rfl rfl) (ah_one 10 rfl (by kernel_rfl) (fun hok29 hcl29 => ?_))))
       refine al_new (fun b => .pointer (some ⟨b, 0, none⟩)) (r_alloc Tryz.zeroValue79 rfl) rfl rfl rfl ?_
       intro b13
       refine al_end (ah_back hok29 hcl29 (fun w9 hs => (hs.tail 1 rfl)) ?_)
       exact ah_to (hS1_0 b13) rfl (by kernel_rfl) ⟨rfl, rfl, rfl, rfl, rfl, rfl, rfl, rfl, rfl, rfl, rfl, rfl, rfl, rfl, rfl, rfl, rfl, rfl, rfl, rfl, rfl, rfl, trivial⟩ (fun w9 hs => hs)
      ·refine al_new (fun b => .pointer (some ⟨b, 0, none⟩)) (r_alloc Tryz.zeroValue79 rfl) rfl rfl rfl ?_
       intro b14
       refine al_end (ah_back hok28 hcl28 (fun w9 hs => (hs.tail 1 rfl)) ?_)
       refine ah_one 6 rfl (by kernel_rfl) (fun hok30 hcl30 => ?_)
       refine al_call Tryz.call86 (.cons rfl (.cons rfl .nil)) rfl rfl (fun w11 hs11 => ?_)
       refine (rcell9_any R M (zs.getD x.1 (0, 0, 0)).1 _ (hM.below hs11.below)).mono ?_
       rintro e u11 ⟨rfl, hb_11⟩
       refine ⟨_, rfl, hb_11, ?_⟩
       clear hs11
       refine al_end (ah_back hok30 hcl30 (fun w9 hs => ((hs.fewer 1 rfl).tail 1 rfl)) ?_)
       refine ah_few ?_
       refine ah_t 7 (fun w9 hs => (hs.tail 1 rfl)) rfl rfl (by kernel_rfl) (q_move rfl) (ah_t 8 (fun w9 hs => (hs.tail 1 rfl)) rfl rfl (by kernel_rfl) (q_extract rfl rfl) (ah_t 9 (fun w9 hs => (hs.tail 1 rfl)) rfl rfl (by kernel_rfl) (q_extract rfl rfl) ?_))
       exact ah_to (hS1_0 b14) rfl (by kernel_rfl) ⟨rfl, rfl, rfl, rfl, rfl, rfl, rfl, rfl, rfl, rfl, rfl, rfl, rfl, rfl, rfl, rfl, rfl, rfl, rfl, rfl, rfl, rfl, trivial⟩ (fun w9 hs => hs)
    ·have hxe : len ≤ x.1 := by have := of_decide_eq_false h5; omega
     have hwe := where_end hc (by omega) hgo
     refine ac_exit (aq_thenE (aq_thenE (aq_hit (aq_then ?_))))
     refine ac_seq (aq_pm (.cons (.there (.there (.there (.there (.here))))) ( .cons (.there (.there (.there (.there (.here))))) ( .cons (.there (.there (.there (.there (.here))))) (.refl)))) ?_)
     refine ac_drawK 3 6 rfl (by kernel_rfl) (by kernel_rfl) ?_
     refine ah_t 0 (fun w9 hs => (hs.tail 3 rfl)) rfl rfl (by kernel_rfl) (q_loadAll (i := 2) rfl rfl Tryz.isAgg41 Tryz.sizeOf41 rfl) (ah_t 1 (fun w9 hs => (hs.tail 3 rfl)) rfl rfl (by kernel_rfl) (q_loadAll (i := 1) rfl rfl Tryz.isAgg41 Tryz.sizeOf41 rfl) (ah_t 2 (fun w9 hs => (hs.tail 3 rfl)) rfl rfl (by kernel_rfl) (q_loadAll (i := 0) rfl rfl Tryz.isAgg41 Tryz.sizeOf41 rfl) (ah_one 3 rfl (by kernel_rfl) (fun hok31 hcl31 => ?_))))
     refine al_storeAll (i := 2) rfl rfl rfl rfl Tryz.sizeOf41 rfl rfl .k2 rfl (al_end (ah_back hok31 hcl31 (fun w9 hs => (hs.tail 3 rfl)) ?_))
     refine ah_one 4 rfl (by kernel_rfl) (fun hok32 hcl32 => ?_)
     refine al_storeAll (i := 1) rfl rfl rfl rfl Tryz.sizeOf41 rfl rfl .k1 rfl (al_end (ah_back hok32 hcl32 (fun w9 hs => (hs.tail 3 rfl)) ?_))
     refine ah_one 5 rfl (by kernel_rfl) (fun hok33 hcl33 => ?_)
     refine al_storeAll (i := 0) rfl rfl rfl rfl Tryz.sizeOf41 rfl rfl .k0 rfl (al_end (ah_back hok33 hcl33 (fun w9 hs => (hs.tail 3 rfl)) ?_))
     refine ah_t 6 (fun w9 hs => (hs.tail 3 rfl)) rfl rfl (by kernel_rfl) (q_assign rfl) (ah_done (by kernel_rfl) ?_)
     refine aq_then (ac_ret (retR Tryz.results47 (.agg (i := 2) rfl rfl Tryz.isAgg41 Tryz.sizeOf41 rfl (.agg (i := 1) rfl rfl Tryz.isAgg41 Tryz.sizeOf41 rfl (.agg (i := 0) rfl rfl Tryz.isAgg41 Tryz.sizeOf41 rfl (.tmp rfl .nil)))) .two (fun w9 hs => ?_)))
     rw [hwe, if_neg hln]; exact ⟨rfl, hs.below⟩
end
end Go.Proofs.YtapldonpflgnfaaGreatDoor
