import Derived.Test.YthggkidiidnaoaaGreatWAA
import Derived.Test.YthggkidiidnaoaaGreatWBD
import Derived.Test.YthggkidiidnaoaaGreatRows
import Derived.KernelRfl
import Derived.Laws.StructEq
namespace Go.Proofs.YthggkidiidnaoaaGreat
set_option linter.unusedVariables false
set_option linter.unusedSimpArgs false
section
open Go.RowKit
theorem mixC_skip {n k : Nat} {f g : Nat → Value} (h : f k = g k) : mixC n k f g = mixC n (k + 1) f g := by
 unfold mixC
 apply List.map_congr_left
 intro j _
 by_cases hj : j = k
 ·subst hj; simp [h]
 ·have : (j < k) ↔ (j < k + 1) := by omega
  simp only [this]
theorem tdiv_bd {a b B : Int} (hb : 1 ≤ b) (h : -B ≤ a ∧ a ≤ B) : -B ≤ a.tdiv b ∧ a.tdiv b ≤ B := by
 rcases Int.le_total 0 a with g | g
 ·rw [Int.tdiv_eq_ediv_of_nonneg g]
  have := Int.ediv_le_self b g
  have := Int.ediv_nonneg g (show 0 ≤ b by omega)
  omega
 ·have e : a = -(-a) := by omega
  rw [e, Int.neg_tdiv, Int.tdiv_eq_ediv_of_nonneg om9]
  have := Int.ediv_le_self b (show 0 ≤ -a by omega)
  have := Int.ediv_nonneg (show 0 ≤ -a by omega) (show 0 ≤ b by omega)
  omega
theorem sq6_bd {x : Int} (h : -1000000 ≤ x ∧ x ≤ 1000000) : 0 ≤ x * x ∧ x * x ≤ 1000000000000 := by
 rcases Int.le_total 0 x with g | g
 ·have := mulP_bd (x := x) (y := x) (X := 1000000) (Y := 1000000) ⟨g, h.2⟩ h
  have := Int.mul_nonneg g g
  omega
 ·have e : x * x = (-x) * (-x) := by rw [Int.neg_mul_neg]
  have := mulP_bd (x := -x) (y := -x) (X := 1000000) (Y := 1000000) ⟨by omega, by omega⟩ ⟨by omega, by omega⟩
  have := Int.mul_nonneg (show 0 ≤ -x by omega) (show 0 ≤ -x by omega)
  omega
theorem iA_bd {l : List Int} {a b : Int} (h0 : a ≤ 0 ∧ 0 ≤ b) (h : ∀ x ∈ l, a ≤ x ∧ x ≤ b) (k : Nat) : a ≤ iA l k ∧ iA l k ≤ b := by
 rcases Nat.lt_or_ge k l.length with g | g
 ·exact h _ (iA_mem g)
 ·rw [iA_out g]; exact h0
theorem app_all {M : MachD} {S : StD} {ch : List Int} (h : FitS M S) : ∀ x ∈ appL M S ch, -1000000 ≤ x ∧ x ≤ 1000000 := lst_all.2 fun k hk => by
 have h1 := cA_ok h.cur.check hk
 have h2 := appI_bd h1 (iA S.C.coils k) (iA ch k) (bA S.trip k)
 have h3 := h1.step
 unfold appA; omega
theorem sub_all {M : MachD} {S : StD} {pl : List Int} (h : FitS M S) (hp : FitP M pl) : ∀ x ∈ diffL pl S.C.plasma, -1000000 ≤ x ∧ x ≤ 1000000 := lst_all.2 fun k hk => by
 have h1 := iA_bd (l := pl) (k := k) ⟨Int.le_refl 0, by omega⟩ hp.plasma.2
 have h2 := iA_bd (l := S.C.plasma) (k := k) ⟨Int.le_refl 0, by omega⟩ h.cur.plasma.2
 omega
theorem ind_bd {M : MachD} (hc : checkC M = 0) {co ce : List Int} (d1 : ∀ y ∈ co ++ ce, -2000000 ≤ y ∧ y ≤ 2000000) {i : Nat} (hi : i < M.shells.length) : -4000000000000000 ≤ indA M co ce i ∧ indA M co ce i ≤ 4000000000000000 := by
 have n4 := (sound_of hc).coils.1
 have n3 : cellN M ≤ 64 := by
  have := cells_fine (sound_of hc).grid
  unfold cellN; omega
 have h := dotTo_bd (f := termA M co ce (sA M i)) (B := 50000000000000) (M.coils.length + cellN M) (fun k hk => by
  have := mulP_bd (lk_bd hc (sA M i) k) (iA_bd (k := k) ⟨by omega, by omega⟩ d1)
  unfold termA; omega)
 exact tdiv_bd (sA_ok hc hi).self.1 om9
abbrev fiveR (o1 o2 o3 o4 o5 : Gr) (n1 n2 n3 n4 n5 : Nat) : StR := ⟨⟨gA o1, gA o2, gA o3, n1, gC o1, n2, gC o2, n3, gC o3⟩, gA o4, gA o5, n4, gC o4, n5, gC o5⟩
theorem gok.len2 {o : Gr} {n z : Nat} {cs cs' : List Value} (h : gok o n z cs) (hl : cs'.length = cs.length) : gok o n z cs' := ⟨by rw [hl]; exact h.len, h.nil, h.own⟩
theorem isS_five {E : Cfg} {U : Snaps} {L L1 : Boxes} {w : World} {RS : StR} {S : StD} {x : AfS} (hs : Sta E U L w) (hT : Tl L1 (fiveT x.o1 x.o2 x.o3 x.o4 x.o5 (lst RS.Q.la (intsF S.C.coils)) (lst RS.Q.lb (intsF S.C.shells)) (lst RS.Q.lc (intsF S.C.plasma)) (lst RS.lh (intsF S.heat)) (lst RS.lt (boolsF S.trip))) L) (hF : AfF RS S x)
  (e1 : S.C.coils.length = RS.Q.la) (e2 : S.C.shells.length = RS.Q.lb) (e3 : S.C.plasma.length = RS.Q.lc) (e4 : S.heat.length = RS.lh) (e5 : S.trip.length = RS.lt) (k1 : RS.Q.la ≤ 1000) (k2 : RS.Q.lb ≤ 1000) (k3 : RS.Q.lc ≤ 1000) (k4 : RS.lh ≤ 1000) (k5 : RS.lt ≤ 1000) :
  IsS w (fiveR x.o1 x.o2 x.o3 x.o4 x.o5 RS.Q.la RS.Q.lb RS.Q.lc RS.lh RS.lt) S :=
 ⟨⟨hs.isG (enc := intCells) (fun _ => rfl) (.app (.app (.app (.app hT)))) hF.g1 (ints_lst e1) e1, hs.isG (enc := intCells) (fun _ => rfl) (.app (.app (.app hT))) hF.g2 (ints_lst e2) e2, hs.isG (enc := intCells) (fun _ => rfl) (.app (.app hT)) hF.g3 (ints_lst e3) e3,
  hF.g1.le.1, hF.g2.le.1, hF.g3.le.1, hF.g1.le.2, hF.g2.le.2, hF.g3.le.2, by simp only; omega, by simp only; omega, by simp only; omega⟩, hs.isG (enc := intCells) (fun _ => rfl) (.app hT) hF.g4 (ints_lst e4) e4, hs.isG (enc := boolCells) (fun _ => rfl) hT hF.g5 (bools_lst e5) e5, hF.g4.le.1, hF.g5.le.1, hF.g4.le.2, hF.g5.le.2, by simp only; omega, by simp only; omega⟩
theorem kih_bl_circuittick_0_1_2 (c0_0 c0_1 c0_2 c0_3 c0_4 c0_5 c0_6 c0_7 c0_8 c0_9 c0_10 c1_0 c1_1 c2_0 c2_1 c2_2 c2_3 c2_4 c2_5 : Value) : ∀ w, (Instr.build 202 #[(0, .agg #[c0_0, c0_1, c0_2, c0_3, c0_4, c0_5, c0_6, c0_7, c0_8, c0_9, c0_10]), (1, .agg #[c1_0, c1_1]), (2, .agg #[c2_0, c2_1, c2_2, c2_3, c2_4, c2_5])]).run Tryz.prog w = .ok (.agg #[c0_0, c0_1, c0_2, c0_3, c0_4, c0_5, c0_6, c0_7, c0_8, c0_9, c0_10, c1_0, c1_1, c2_0, c2_1, c2_2, c2_3, c2_4, c2_5, (.slice none 0 0), .nilFunc]) w := by
 intro w; simp [Instr.build, Instr.fill, cells_agg, Tryz.runUnderlying202, Tryz.zeroValue202, Tryz.sizeOf30, Tryz.sizeOf35, Tryz.sizeOf79, Tryz.sizeOf108, Tryz.sizeOf200]
theorem kih_bs_func_6_0_1_2_3_4_5 (a0 a1 a2 a3 a4 a5 : Value) (ha0 : a0.oneCell' = true) (ha1 : a1.oneCell' = true) (ha2 : a2.oneCell' = true) (ha3 : a3.oneCell' = true) (ha4 : a4.oneCell' = true) (ha5 : a5.oneCell' = true) : ∀ w, (Instr.buildSlice 204 6 #[(0, a0), (1, a1), (2, a2), (3, a3), (4, a4), (5, a5)]).run Tryz.prog w = .ok (.slice (some ⟨w.heap.size, 0, none⟩) 6 6) (w.alloc (.cells [a0, a1, a2, a3, a4, a5].toArray 1)) := by
 have ea0 : a0.cells = #[a0] := cells_one ha0
 have ea1 : a1.cells = #[a1] := cells_one ha1
 have ea2 : a2.cells = #[a2] := cells_one ha2
 have ea3 : a3.cells = #[a3] := cells_one ha3
 have ea4 : a4.cells = #[a4] := cells_one ha4
 have ea5 : a5.cells = #[a5] := cells_one ha5
 intro w; (simp [Instr.buildSlice, Instr.fill, cells_agg, newRow, Tryz.runUnderlying204, Tryz.zeroValue1, Tryz.sizeOf1, ea0, ea1, ea2, ea3, ea4, ea5] <;> (rw [(by kernel_rfl : Array.range 6 = #[0, 1, 2, 3, 4, 5])]; simp [Value.cells]))
set_option maxRecDepth 100000 in
theorem after_any (R : MachR) (M : MachD) (Lk : Option Addr) (cl : Nat) (rows : List (Option Addr × Nat)) (RS : StR) (S : StD) (A1 A2 : Option Addr) (l1 c1 l2 c2 : Nat) (ch pl : List Int) (w : World) (hM : IsM w R M) (hK : IsK M w Lk R.lb rows) (hS : IsS w RS S) (hF : FitS M S) (i1 : IsT 1 intCells w A1 l1 ch) (hch : validCh M ch 1000000000000000 = true) (i2 : IsT 1 intCells w A2 l2 pl) (hp : FitP M pl) : Calls Tryz.prog 99 #[(circV R M Lk cl), (RS.v S.tick), (.agg #[.slice A1 l1 c1, .slice A2 l2 c2])] w (fun e w' => ∃ x : AfS, e = .returned (fiveV (S.tick + 1) x.o1 x.o2 x.o3 x.o4 x.o5 RS.Q.la RS.Q.lb RS.Q.lc RS.lh RS.lt) ∧ AfF RS S x ∧ Own w (fiveT x.o1 x.o2 x.o3 x.o4 x.o5 (lst RS.Q.la (fun j => .int .i64 (coilN M S ch j))) (lst RS.Q.lb (fun j => .int .i64 (shellN M S ch pl j))) (lst RS.Q.lc (intsF pl)) (lst RS.lh (fun j => .int .i64 (heatN M S ch j))) (lst RS.lt (fun j => .bool (tripN M S ch j)))) w') := by
 have hc := hF.cur.check
 have n1 := hM.coils.1
 have n2 := hM.shells.1
 have n3 := cellN_bd hc
 have n4 := (sound_of hc).coils.1
 have n5 := (sound_of hc).shells.1
 have m1 := hS.cur.coils.1
 have m2 := hS.cur.shells.1
 have m3 := hS.cur.plasma.1
 have m4 := hS.heat.1
 have m5 := hS.trip.1
 have f1 := hF.cur.coils.1
 have f2 := hF.cur.shells.1
 have f3 := hF.cur.plasma.1
 have f4 := hF.heat.1
 have f5 := hF.trip
 have f9 := hF.tick
 have f6 := hp.plasma.1
 have f7 := i2.1
 have f8 : (cellN M : Int) = M.grid.nr * M.grid.nz := by have := cells_fine (sound_of hc).grid; unfold cellN; omega
 have hd9 : ∀ y ∈ appL M S ch ++ diffL pl S.C.plasma, -2000000 ≤ y ∧ y ≤ 2000000 := fun y hy => by
  rcases List.mem_append.1 hy with h | h
  ·have := app_all hF y h; omega
  ·have := sub_all hF hp y h; omega
 refine calls_ax (vs := [(circV R M Lk cl), (RS.v S.tick), (.agg #[.slice A1 l1 c1, .slice A2 l2 c2])]) Tryz.func99 rfl rfl ?_
 refine ac_seq (ac_region ?_)
 refine al_nb (r_box rfl rfl) ?_
 intro b1
 refine al_nb (r_box rfl rfl) ?_
 intro b2
 refine al_nb (r_box rfl rfl) ?_
 intro b3
 refine al_nb (r_alloc Tryz.zeroValue35 rfl) ?_
 intro b4
 refine al_end (aq_then ?_)
 refine ac_cut (β := AfS) (fun x => AfF RS S x) (fun x => [(4, (.pointer (some ⟨b2, 0, none⟩))), (6, (.pointer (some ⟨b4, 0, none⟩))), (7, (.pointer (some ⟨x.b, 0, none⟩)))]) (fun x => []) (fun x L9 => (x.b, .cells [.string M.name, .slice R.A R.la R.ca, .slice R.B R.lb R.cb, .slice R.C R.lc R.cc, .int .i64 M.grid.r, .int .i64 M.grid.z, .int .i64 M.grid.nr, .int .i64 M.grid.nz, .int .i64 M.grid.step, .slice R.D R.ld R.cd, .slice Lk R.lb cl, .slice A1 l1 c1, .slice A2 l2 c2, .int .i64 S.tick, .slice (gA x.o1) RS.Q.la (gC x.o1), .slice (gA x.o2) RS.Q.lb (gC x.o2), .slice (gA x.o3) RS.Q.lc (gC x.o3), .slice (gA x.o4) RS.lh (gC x.o4), .slice (gA x.o5) RS.lt (gC x.o5), .slice none 0 0, .nilFunc]) :: (L9 ++ fiveT x.o1 x.o2 x.o3 x.o4 x.o5 (lst RS.Q.la (intsF S.C.coils)) (lst RS.Q.lb (intsF S.C.shells)) (lst RS.Q.lc (intsF S.C.plasma)) (lst RS.lh (intsF S.heat)) (lst RS.lt (boolsF S.trip)))) (fun X9 hX9 => ?_) (fun x hF9 => ?_)
 ·refine ac_drawF 6 (.s (.s (.s (.s .z)))) kr9 kr9 ?_
  refine ah_t 0 (fun w9 hs => (hs.front (.s4 .z))) rfl rfl kr9 (q_loadAll (i := 3) rfl rfl Tryz.isAgg108 Tryz.sizeOf108 rfl) (ah_t 1 (fun w9 hs => (hs.front (.s4 .z))) rfl rfl kr9 (q_loadAll (i := 1) rfl rfl Tryz.isAgg79 Tryz.sizeOf79 rfl) (ah_t 2 (fun w9 hs => (hs.front (.s4 .z))) rfl rfl kr9 (q_loadAll (i := 2) rfl rfl Tryz.isAgg35 Tryz.sizeOf35 rfl) ?_))
  refine ah_two 3 5 rfl rfl  kr9 (fun hok1 hcl1 => ?_) (fun hok1 hcl1 => ?_)
  ·refine al_callS Tryz.call98 (.cons rfl .nil) rfl rfl (fun w1 hs1 => ?_)
   refine (cloneL_any RS S _ (hS.below hs1.below) om9 om9 om9 om9 om9).mono ?_
   rintro e u1 ⟨o_1, o_2, o_3, o_4, o_5, rfl, G9, hb_1⟩
   refine ⟨_, _, _, rfl, hs1.giftF (.s4 .z) hb_1 (.s4 .z), ?_⟩
   refine al_end (ah_back hok1 hcl1 (fun w9 hs => (hs.front (.s4 .z))) ?_)
   refine ah_t 4 (fun w9 hs => (hs.front (.s4 .z))) rfl rfl kr9 (q_build (.cons rfl (.cons rfl (.cons rfl .nil))) (kih_bl_circuittick_0_1_2 _ _ _ _ _ _ _ _ _ _ _ _ _ _ _ _ _ _ _)) (ah_one 5 rfl kr9 (fun hok2 hcl2 => ?_))
   refine al_nb (r_alloc Tryz.zeroValue202 rfl) ?_
   intro b5
   refine al_end (ah_back hok2 hcl2 (fun w9 hs => ((hs.tail 1 rfl).front (.s4 .z))) ?_)
   refine ah_one 6 rfl kr9 (fun hok3 hcl3 => ?_)
   refine al_storeAll (i := 0) rfl rfl rfl rfl Tryz.sizeOf202 rfl rfl .k0 rfl (al_end (ah_last kr9 ?_))
   refine aq_then ?_
   exact aq_sub (hX9 (⟨b5, o_1, o_2, o_3, o_4, o_5⟩) ((G9 _))) ⟨rfl, rfl, rfl, trivial⟩ (fun w9 hs => (by have h9 := hs.firstSnaps 0 rfl; rw [List.append_nil] at h9; exact h9))
  ·refine al_nb (r_alloc Tryz.zeroValue202 rfl) ?_
   intro b6
   refine al_end (ah_back hok1 hcl1 (fun w9 hs => ((hs.tail 1 rfl).front (.s4 .z))) ?_)
   refine ah_one 3 rfl kr9 (fun hok4 hcl4 => ?_)
   refine al_callS Tryz.call98 (.cons rfl .nil) rfl rfl (fun w2 hs2 => ?_)
   refine (cloneL_any RS S _ (hS.below hs2.below) om9 om9 om9 om9 om9).mono ?_
   rintro e u2 ⟨o_1, o_2, o_3, o_4, o_5, rfl, G9, hb_2⟩
   refine ⟨_, _, _, rfl, hs2.giftF (.s5 .z) hb_2 (.s5 .z), ?_⟩
   refine al_end (ah_back hok4 hcl4 (fun w9 hs => ((hs.tail 1 rfl).front (.s4 .z))) ?_)
   refine ah_t 4 (fun w9 hs => ((hs.tail 1 rfl).front (.s4 .z))) rfl rfl kr9 (q_build (.cons rfl (.cons rfl (.cons rfl .nil))) (kih_bl_circuittick_0_1_2 _ _ _ _ _ _ _ _ _ _ _ _ _ _ _ _ _ _ _)) (ah_one 6 rfl kr9 (fun hok5 hcl5 => ?_))
   refine al_storeAll (i := 0) rfl rfl rfl rfl Tryz.sizeOf202 rfl rfl .k0 rfl (al_end (ah_last kr9 ?_))
   refine aq_then ?_
   exact aq_sub (hX9 (⟨b6, o_1, o_2, o_3, o_4, o_5⟩) ((G9 _))) ⟨rfl, rfl, rfl, trivial⟩ (fun w9 hs => (by have h9 := hs.firstSnaps 0 rfl; rw [List.append_nil] at h9; exact h9))
 ·refine ac_seq (ac_region ?_)
  refine al_p (q_makeFunc _ _ .nil (.cons rfl (.cons rfl .nil))) ?_
  refine al_p (q_fieldAddr 20 rfl Tryz.runUnderlying202 rfl Tryz.sizeOf200 de9 rfl) (al_store1 (i := 0) rfl rfl rfl rfl Tryz.sizeOf200 (.s (.s (.s (.s (.k16))))) .k0 rfl (al_end (aq_then ?_)))
  refine ac_seq (ac_seq (ac_region ?_))
  refine al_p (q_makeFunc _ _ (.cons rfl .nil) .nil) (al_p (q_makeFunc _ _ (.cons rfl .nil) .nil) (al_p (q_makeFunc _ _ (.cons rfl .nil) .nil) (al_p (q_makeFunc _ _ (.cons rfl .nil) .nil) (al_p (q_makeFunc _ _ (.cons rfl .nil) .nil) ?_))))
  refine al_p (q_makeFunc _ _ (.cons rfl .nil) .nil) (al_new (fun b => .slice (some ⟨b, 0, none⟩) 6 6) (r_buildSlice (.cons rfl (.cons rfl (.cons rfl (.cons rfl (.cons rfl (.cons rfl .nil)))))) (kih_bs_func_6_0_1_2_3_4_5 _ _ _ _ _ _ rfl rfl rfl rfl rfl rfl)) rfl rfl rfl ?_)
  intro b7
  refine al_p (q_same (v' := .int .i64 6) (q_lenS rfl Tryz.runUnderlying204) rfl) (al_p (q_move rfl) (al_end (aq_then ?_)))
  refine ac_block (ac_loop1 ?_)
  refine ac_seq (ac_region ?_)
  refine al_p (q_same (v' := .bool true) (q_lss rfl rfl) rfl) (al_end (aq_then ?_))
  refine ac_seq (ac_condT rfl (ac_skip (aq_then (ac_seq ?_))))
  refine ac_block (ac_seq (ac_region ?_))
  refine al_p (q_indexAddr (i := 0) 0 rfl rfl rfl de9 Tryz.runUnderlying204 Tryz.sizeOf1 rfl) (al_p (q_load (i := 0) rfl rfl rfl Tryz.isAgg1) (al_p (q_assign rfl) (al_end (aq_then ?_))))
  refine ac_region (al_p (q_move rfl) (al_inlV (fi := [(.pointer (some ⟨x.b, 0, none⟩))]) (ca := []) rfl Tryz.call143 .nil rfl rfl Tryz.func143 rfl rfl ?_))
  refine ac_seq (ac_draw 18 kr9 kr9 ?_)
  refine ah_t 0 (fun w9 hs => hs) rfl rfl kr9 (q_move rfl) (ah_t 1 (fun w9 hs => hs) rfl rfl kr9 (q_move rfl) (ah_t 2 (fun w9 hs => hs) rfl rfl kr9 (q_nilCheckP rfl) ?_))
  refine ah_t 3 (fun w9 hs => hs) rfl rfl kr9 (q_fieldAddr 0 rfl Tryz.runUnderlying202 rfl Tryz.sizeOf108 de9 rfl) ?_
  refine ah_t 4 (fun w9 hs => hs) rfl rfl kr9 (q_fieldAddr 0 rfl Tryz.runUnderlying108 rfl Tryz.sizeOf29 de9 rfl) (ah_t 5 (fun w9 hs => hs) rfl rfl kr9 (q_loadSub (i := 1) rfl rfl Tryz.isAgg29 Tryz.sizeOf29 .k0 .k10) (ah_t 6 (fun w9 hs => hs) rfl rfl kr9 (q_move rfl) (ah_t 7 (fun w9 hs => hs) rfl rfl kr9 (q_nilCheckP rfl) ?_)))
  refine ah_t 8 (fun w9 hs => hs) rfl rfl kr9 (q_fieldAddr 13 rfl Tryz.runUnderlying202 rfl Tryz.sizeOf35 de9 rfl) (ah_t 9 (fun w9 hs => hs) rfl rfl kr9 (q_loadSub (i := 1) rfl rfl Tryz.isAgg35 Tryz.sizeOf35 .k13 .k6) (ah_t 10 (fun w9 hs => hs) rfl rfl kr9 (q_move rfl) (ah_t 11 (fun w9 hs => hs) rfl rfl kr9 (q_nilCheckP rfl) ?_)))
  refine ah_t 12 (fun w9 hs => hs) rfl rfl kr9 (q_fieldAddr 11 rfl Tryz.runUnderlying202 rfl Tryz.sizeOf79 de9 rfl) ?_
  refine ah_t 13 (fun w9 hs => hs) rfl rfl kr9 (q_fieldAddr 11 rfl Tryz.runUnderlying79 rfl Tryz.sizeOf30 de9 rfl) (ah_t 14 (fun w9 hs => hs) rfl rfl kr9 (q_load (i := 1) rfl rfl rfl Tryz.isAgg30) (ah_one 15 rfl kr9 (fun hok6 hcl6 => ?_)))
  refine al_call Tryz.call161 (.cons rfl (.cons rfl (.cons rfl .nil))) rfl rfl (fun w3 hs3 => ?_)
  have hS9 := isS_five (RS := RS) (S := S) hs3 (.s6 .z) hF9 om9 om9 om9 om9 om9 om9 om9 om9 om9 om9
  refine (applied_any R M _ S A1 l1 c1 ch _ (hM.below hs3.below) hS9 hF (i1.below hs3.below) hch).mono ?_
  rintro e u3 ⟨P1, p1, rfl, N1, hb_3⟩
  refine ⟨_, rfl, hb_3, ?_⟩
  clear hs3
  refine al_end (ah_back hok6 hcl6 (fun w9 hs => (hs.fewer 1 rfl)) ?_)
  refine ah_t 16 (fun w9 hs => (hs.fewer 1 rfl)) rfl rfl kr9 (q_nilCheckP rfl) ?_
  refine ah_t 17 (fun w9 hs => (hs.fewer 1 rfl)) rfl rfl kr9 (q_fieldAddr 19 rfl Tryz.runUnderlying202 rfl Tryz.sizeOf30 de9 rfl) (ah_one 18 rfl kr9 (fun hok7 hcl7 => ?_))
  refine al_store1 (i := 1) rfl rfl rfl rfl Tryz.sizeOf30 (.s (.s (.s (.k16)))) .k1 rfl (al_end (ah_last kr9 ?_))
  refine aq_then (ac_seq (ac_region ?_))
  refine al_p (q_move rfl) (al_p (q_nilCheckP rfl) ?_)
  refine al_p (q_fieldAddr 19 rfl Tryz.runUnderlying202 rfl Tryz.sizeOf30 de9 rfl) (al_p (q_load (i := 1) rfl rfl rfl Tryz.isAgg30) (al_p (q_lenS rfl Tryz.runUnderlying30) (al_p (q_move rfl) (al_end (aq_then ?_)))))
  refine ac_block ?_
  refine ac_loop (β := Nat) (fun y1 => y1 ≤ R.la) (fun y1 => [(0, (.pointer (some ⟨x.b, 0, none⟩))), (25, (.slice P1 R.la p1)), (26, (.int .i64 (R.la : Int))), (27, (.int .i64 (y1 : Int)))]) (fun _ => _) (fun y1 => (b7, _) :: (x.b, _) :: (b4, _) :: (b3, _) :: (b2, _) :: (b1, _) :: (gt x.o5 (lst RS.lt (boolsF S.trip)) ++ (gt x.o4 (lst RS.lh (intsF S.heat)) ++ (gt x.o3 (lst RS.Q.lc (intsF S.C.plasma)) ++ (gt x.o2 (lst RS.Q.lb (intsF S.C.shells)) ++ (gt x.o1 (mixC RS.Q.la y1 (fun j => .int .i64 (coilN M S ch j)) (intsF S.C.coils)) ++ ([]))))))) (fun y1 => R.la - y1) 0 om9 ⟨rfl, rfl, rfl, rfl, trivial⟩ (fun w9 hs => (by rw [mixC_zero]; exact hs)) (fun y1 hF1 => ?_)
  refine ac_seq (ac_region ?_)
  refine al_p (q_lss rfl rfl) (al_end (aq_then ?_))
  refine ac_seq ?_
  refine ac_cond rfl (fun h1 => ?_) (fun h1 => ?_)
  ·have hyl : y1 < R.la := by have := of_decide_eq_true h1; omega
   obtain ⟨d1, e1, sp1, hO1⟩ := hF9.g1.some om9
   have hB1 : gA x.o1 = some ⟨d1, 0, none⟩ := by rw [hO1]; rfl
   obtain ⟨b61, o61, hA6, hlt6, hget6⟩ := N1.isT.2 om9
   have hx6 : (appL M S ch)[y1]? = some (appA M S ch y1) := lst_get _ om9
   have q1 := hF.cur.coils.2 _ (iA_mem (l := S.C.coils) (k := y1) om9)
   have q2 := app_all (ch := ch) hF _ (List.mem_of_getElem? hx6)
   have hgt1 := mixC_old RS.Q.la y1 (fun j => .int .i64 (coilN M S ch j)) (intsF S.C.coils) y1 om9 (Nat.le_refl _)
   have hset1 : (mixC RS.Q.la y1 (fun j => .int .i64 (coilN M S ch j)) (intsF S.C.coils)).set y1 (.int .i64 (iA S.C.coils y1 + appA M S ch y1)) = mixC RS.Q.la (y1 + 1) (fun j => .int .i64 (coilN M S ch j)) (intsF S.C.coils) := mixC_set RS.Q.la y1 (fun j => .int .i64 (coilN M S ch j)) (intsF S.C.coils) om9
   refine ac_skip (aq_then (ac_seq (ac_block (ac_seq (ac_region ?_)))))
   refine al_p (q_move rfl) ?_
   refine al_p (q_indexAddrA (i := y1) (o61 + y1 * 1 + 0) hA6 rfl rfl rfl om9 Tryz.runUnderlying30 Tryz.sizeOf3 rfl) (al_p (q_loadX rfl Tryz.isAgg3 (fun w9 hs => (hs.cellOf (.head _) (N1.new _ _ hA6) hlt6 (hget6 y1 _ hx6 0 _ rfl)))) (al_p (q_assign rfl) (al_p (q_assign rfl) (al_end (aq_then ?_)))))
   refine ac_region (al_p (q_move rfl) (al_p (q_nilCheckP rfl) ?_))
   refine al_p (q_fieldAddr 13 rfl Tryz.runUnderlying202 rfl Tryz.sizeOf35 de9 rfl) ?_
   refine al_p (q_fieldAddr 14 rfl Tryz.runUnderlying35 rfl Tryz.sizeOf32 de9 rfl) ?_
   refine al_p (q_fieldAddr 14 rfl Tryz.runUnderlying32 rfl Tryz.sizeOf30 de9 rfl) (al_p (q_load (i := 1) rfl rfl rfl Tryz.isAgg30) (al_p (q_move rfl) ?_))
   refine al_p (q_indexAddrA (i := y1) (y1) hB1 rfl rfl rfl om9 Tryz.runUnderlying30 Tryz.sizeOf3 om9) (al_p (q_loadX rfl Tryz.isAgg3 (fun w9 hs => hs.cellG hO1 (Tl.app (Tl.app (Tl.app (Tl.app (.s6 .z))))) hgt1)) (al_p (q_move rfl) ?_))
   refine al_p (q_add rfl rfl om9) ?_
   refine al_p (q_indexAddrA (i := y1) (y1) hB1 rfl rfl rfl om9 Tryz.runUnderlying30 Tryz.sizeOf3 om9) ?_
   refine al_storeG hO1 rfl rfl rfl (Tl.app (Tl.app (Tl.app (Tl.app (.s6 .z))))) (by rw [mixC_len]; omega) Tryz.sizeOf3 (Tl.app (Tl.app (Tl.app (Tl.app (.s6 .z))))) rfl ?_
   refine al_end (aq_inN (aq_then (aq_keepL [0, 2, 3, 25, 26, 27, 28, 29, 30, 31, 32, 33, 34, 35, 36, 37, 38, 39, 40, 41, 42, 43] (.cons rfl (.cons rfl (.cons rfl (.cons rfl (.cons rfl (.cons rfl (.cons rfl (.cons rfl (.cons rfl (.cons rfl (.cons rfl (.cons rfl (.cons rfl (.cons rfl (.cons rfl (.cons rfl (.cons rfl (.cons rfl (.cons rfl (.cons rfl (.cons rfl (.cons rfl .nil)))))))))))))))))))))) ?_)))
   refine ac_region ?_
   refine al_p (q_add rfl rfl om9) (al_p (q_move rfl) (al_end (aq_then ?_)))
   skip
   refine aq_round (y1 + 1) om9 om9 ⟨rfl, rfl, rfl, rfl, trivial⟩ (fun w9 hs => (by have h9 := hs; rw [hset1] at h9; exact h9))
  ·have hye : y1 = R.la := by have := of_decide_eq_false h1; omega
   subst hye
   obtain ⟨d3, e3, sp3, hO3⟩ := hF9.g3.some om9
   have hB3 : gA x.o3 = some ⟨d3, 0, none⟩ := by rw [hO3]; rfl
   obtain ⟨b91, o91, hA9, hlt9, hget9⟩ := i2.2 om9
   refine ac_exit (aq_thenE (aq_thenE (aq_hit (retIN Tryz.results143 .nil .zero ?_))))
   refine al_end (aq_inN (aq_then (ac_region ?_)))
   refine al_p (q_same (v' := .int .i64 1) (q_add rfl rfl om9) rfl) (al_p (q_move rfl) (al_end (aq_then (aq_again ?_))))
   refine ac_seq (ac_region ?_)
   refine al_p (q_same (v' := .bool true) (q_lss rfl rfl) rfl) (al_end (aq_then ?_))
   refine ac_seq (ac_condT rfl (ac_skip (aq_then (ac_seq ?_))))
   refine ac_block (ac_seq (ac_region ?_))
   refine al_p (q_indexAddr (i := 1) 1 rfl rfl rfl de9 Tryz.runUnderlying204 Tryz.sizeOf1 rfl) (al_p (q_load (i := 0) rfl rfl rfl Tryz.isAgg1) (al_p (q_assign rfl) (al_end (aq_then ?_))))
   refine ac_region (al_p (q_move rfl) (al_inlV (fi := [(.pointer (some ⟨x.b, 0, none⟩))]) (ca := []) rfl Tryz.call144 .nil rfl rfl Tryz.func144 rfl rfl ?_))
   refine ac_draw 11 kr9 kr9 ?_
   refine ah_t 0 (fun w9 hs => hs) rfl rfl kr9 (q_move rfl) (ah_t 1 (fun w9 hs => hs) rfl rfl kr9 (q_nilCheckP rfl) ?_)
   refine ah_t 2 (fun w9 hs => hs) rfl rfl kr9 (q_fieldAddr 13 rfl Tryz.runUnderlying202 rfl Tryz.sizeOf35 de9 rfl) ?_
   refine ah_t 3 (fun w9 hs => hs) rfl rfl kr9 (q_fieldAddr 14 rfl Tryz.runUnderlying35 rfl Tryz.sizeOf32 de9 rfl) ?_
   refine ah_t 4 (fun w9 hs => hs) rfl rfl kr9 (q_fieldAddr 16 rfl Tryz.runUnderlying32 rfl Tryz.sizeOf30 de9 rfl) (ah_t 5 (fun w9 hs => hs) rfl rfl kr9 (q_load (i := 1) rfl rfl rfl Tryz.isAgg30) (ah_t 6 (fun w9 hs => hs) rfl rfl kr9 (q_move rfl) (ah_t 7 (fun w9 hs => hs) rfl rfl kr9 (q_nilCheckP rfl) ?_)))
   refine ah_t 8 (fun w9 hs => hs) rfl rfl kr9 (q_fieldAddr 11 rfl Tryz.runUnderlying202 rfl Tryz.sizeOf79 de9 rfl) ?_
   refine ah_t 9 (fun w9 hs => hs) rfl rfl kr9 (q_fieldAddr 12 rfl Tryz.runUnderlying79 rfl Tryz.sizeOf30 de9 rfl) (ah_t 10 (fun w9 hs => hs) rfl rfl kr9 (q_load (i := 1) rfl rfl rfl Tryz.isAgg30) (ah_one 11 rfl kr9 (fun hok8 hcl8 => ?_)))
   refine al_copyG (vs := (lst RS.Q.lc (intsF pl))) hO3 hB3 hA9 rfl rfl om9 (Tl.app (Tl.app (.s6 .z))) (lst_length _ _) (lst_length _ _) (fun v hv => by obtain ⟨j, _, rfl⟩ := List.mem_map.1 hv; rfl) (fun w9 hs j v hv => by have hj : j < RS.Q.lc := (by have := (List.getElem?_eq_some_iff.1 hv).1; rwa [lst_length] at this); rw [lst_get _ hj] at hv; obtain rfl := Option.some.inj hv; rw [addr_add]; refine (hs.below.cell (p := ⟨_, _, none⟩) hlt9).trans ?_; have h9 := hget9 j _ (iA_get (l := pl) (k := j) om9) 0 _ rfl; simpa using h9) Tryz.underlying30 kr9 (Tl.app (Tl.app (.s6 .z))) rfl rfl ?_
   refine al_end (ah_last kr9 ?_)
   refine retIN Tryz.results144 .nil .zero ?_
   refine al_end (aq_inN (aq_then (ac_region ?_)))
   refine al_p (q_same (v' := .int .i64 2) (q_add rfl rfl om9) rfl) (al_p (q_move rfl) (al_end (aq_then (aq_again ?_))))
   refine ac_seq (ac_region ?_)
   refine al_p (q_same (v' := .bool true) (q_lss rfl rfl) rfl) (al_end (aq_then ?_))
   refine ac_seq (ac_condT rfl (ac_skip (aq_then (ac_seq ?_))))
   refine ac_block (ac_seq (ac_region ?_))
   refine al_p (q_indexAddr (i := 2) 2 rfl rfl rfl de9 Tryz.runUnderlying204 Tryz.sizeOf1 rfl) (al_p (q_load (i := 0) rfl rfl rfl Tryz.isAgg1) (al_p (q_assign rfl) (al_end (aq_then ?_))))
   refine ac_region (al_p (q_move rfl) (al_inlV (fi := [(.pointer (some ⟨x.b, 0, none⟩))]) (ca := []) rfl Tryz.call145 .nil rfl rfl Tryz.func145 rfl rfl ?_))
   refine ac_seq (ac_draw 16 kr9 kr9 ?_)
   refine ah_t 0 (fun w9 hs => hs) rfl rfl kr9 (q_move rfl) (ah_t 1 (fun w9 hs => hs) rfl rfl kr9 (q_nilCheckP rfl) ?_)
   refine ah_t 2 (fun w9 hs => hs) rfl rfl kr9 (q_fieldAddr 0 rfl Tryz.runUnderlying202 rfl Tryz.sizeOf108 de9 rfl) (ah_t 3 (fun w9 hs => hs) rfl rfl kr9 (q_loadSub (i := 1) rfl rfl Tryz.isAgg108 Tryz.sizeOf108 .k0 .k11) (ah_t 4 (fun w9 hs => hs) rfl rfl kr9 (q_move rfl) (ah_t 5 (fun w9 hs => hs) rfl rfl kr9 (q_nilCheckP rfl) ?_)))
   refine ah_t 6 (fun w9 hs => hs) rfl rfl kr9 (q_fieldAddr 19 rfl Tryz.runUnderlying202 rfl Tryz.sizeOf30 de9 rfl) (ah_t 7 (fun w9 hs => hs) rfl rfl kr9 (q_load (i := 1) rfl rfl rfl Tryz.isAgg30) (ah_t 8 (fun w9 hs => hs) rfl rfl kr9 (q_move rfl) (ah_t 9 (fun w9 hs => hs) rfl rfl kr9 (q_nilCheckP rfl) ?_)))
   refine ah_t 10 (fun w9 hs => hs) rfl rfl kr9 (q_fieldAddr 20 rfl Tryz.runUnderlying202 rfl Tryz.sizeOf200 de9 rfl) (ah_t 11 (fun w9 hs => hs) rfl rfl kr9 (q_load (i := 1) rfl rfl rfl Tryz.isAgg200) (ah_t 15 (fun w9 hs => hs) rfl rfl kr9 (q_move rfl) (ah_one 12 rfl kr9 (fun hok9 hcl9 => ?_))))
   refine al_inlV (fi := []) (ca := [(.pointer (some ⟨x.b, 0, none⟩)), (.pointer (some ⟨b2, 0, none⟩))]) rfl Tryz.call141 .nil rfl rfl Tryz.func141 rfl rfl ?_
   refine ac_seq (ac_region ?_)
   refine al_p (q_assign rfl) (al_end (aq_then ?_))
   refine ac_seq (ac_region ?_)
   refine al_p (q_fieldAddr 13 rfl Tryz.runUnderlying202 rfl Tryz.sizeOf35 de9 rfl) ?_
   refine al_p (q_fieldAddr 14 rfl Tryz.runUnderlying35 rfl Tryz.sizeOf32 de9 rfl) ?_
   refine al_p (q_fieldAddr 16 rfl Tryz.runUnderlying32 rfl Tryz.sizeOf30 de9 rfl) (al_p (q_load (i := 1) rfl rfl rfl Tryz.isAgg30) ?_)
   refine al_p (q_fieldAddr 1 rfl Tryz.runUnderlying35 rfl Tryz.sizeOf32 de9 rfl) ?_
   refine al_p (q_fieldAddr 3 rfl Tryz.runUnderlying32 rfl Tryz.sizeOf30 de9 rfl) (al_p (q_load (i := 4) rfl rfl rfl Tryz.isAgg30) (al_call Tryz.call142 (.cons rfl (.cons rfl .nil)) rfl rfl (fun w4 hs4 => ?_)))
   have iP9 := hs4.isG (enc := intCells) (zs := pl) (fun _ => rfl) (Tl.app (Tl.app (.s6 .z))) (hF9.g3.len2 (by rw [lst_length, lst_length])) (ints_lst om9) om9
   refine (differences_any (gA x.o3) RS.Q.C RS.Q.lc (gC x.o3) RS.Q.lc RS.Q.cc pl S.C.plasma _ iP9 (hS.cur.plasma.below hs4.below) rfl om9 (fun y hy => by have := hp.plasma.2 y hy; omega) (fun y hy => by have := hF.cur.plasma.2 y hy; omega)).mono ?_
   rintro e u4 ⟨P2, p2, rfl, N2, hb_4⟩
   refine ⟨_, rfl, hb_4, ?_⟩
   clear hs4
   refine al_p (q_assign rfl) (al_end (aq_then ?_))
   refine ac_ret (retI Tryz.results141 (.tmp rfl .nil) .one ?_)
   refine al_end (ah_back hok9 hcl9 (fun w9 hs => (hs.fewer 1 rfl)) ?_)
   refine ah_one 13 rfl kr9 (fun hok10 hcl10 => ?_)
   refine al_call Tryz.call162 (.cons rfl (.cons rfl (.cons rfl .nil))) rfl rfl (fun w5 hs5 => ?_)
   refine (induced_any R M Lk cl rows P1 P2 R.la p1 RS.Q.lc p2 (appL M S ch) (diffL pl S.C.plasma) _ (hM.below hs5.below) hc (hK.below hs5.below) (hs5.newT (.tail _ (.head _)) N1) (hs5.newT (.head _) N2) rfl om9 hd9).mono ?_
   rintro e u5 ⟨P3, p3, rfl, N3, hb_5⟩
   refine ⟨_, rfl, hb_5, ?_⟩
   clear hs5
   refine al_end (ah_back hok10 hcl10 (fun w9 hs => (hs.fewer 2 rfl)) ?_)
   refine ah_t 14 (fun w9 hs => (hs.fewer 2 rfl)) rfl rfl kr9 (q_lenS rfl Tryz.runUnderlying30) (ah_done kr9 ?_)
   refine aq_then (ac_block ?_)
   refine ac_loop (β := Nat) (fun y2 => y2 ≤ R.lb) (fun y2 => [(0, (.pointer (some ⟨x.b, 0, none⟩))), (18, (.slice P3 R.lb p3)), (19, (.int .i64 (R.lb : Int))), (20, (.int .i64 (y2 : Int)))]) (fun _ => _) (fun y2 => (b7, _) :: (x.b, _) :: (b4, _) :: (b3, _) :: (b2, _) :: (b1, _) :: (gt x.o5 (lst RS.lt (boolsF S.trip)) ++ (gt x.o4 (lst RS.lh (intsF S.heat)) ++ (gt x.o3 (lst RS.Q.lc (intsF pl)) ++ (gt x.o2 (mixC RS.Q.lb y2 (fun j => .int .i64 (shellN M S ch pl j)) (intsF S.C.shells)) ++ (gt x.o1 (mixC RS.Q.la R.la (fun j => .int .i64 (coilN M S ch j)) (intsF S.C.coils)) ++ ([]))))))) (fun y2 => R.lb - y2) 0 om9 ⟨rfl, rfl, rfl, rfl, trivial⟩ (fun w9 hs => (by rw [mixC_zero]; exact hs)) (fun y2 hF2 => ?_)
   refine ac_seq (ac_region ?_)
   refine al_p (q_lss rfl rfl) (al_end (aq_then ?_))
   refine ac_seq ?_
   refine ac_cond rfl (fun h2 => ?_) (fun h2 => ?_)
   ·have hyl : y2 < R.lb := by have := of_decide_eq_true h2; omega
    obtain ⟨d2, e2, sp2, hO2⟩ := hF9.g2.some om9
    have hB2 : gA x.o2 = some ⟨d2, 0, none⟩ := by rw [hO2]; rfl
    obtain ⟨b71, o71, hA7, hlt7, hget7⟩ := N3.isT.2 om9
    have hx7 : (indL M (appL M S ch) (diffL pl S.C.plasma))[y2]? = some (indA M (appL M S ch) (diffL pl S.C.plasma) y2) := lst_get _ om9
    obtain ⟨b21, o21, hA2, hlt2, hget2⟩ := hM.shells.2 om9
    have hx2 := sA_get (M := M) (k := y2) om9
    have q1 := hF.cur.shells.2 _ (iA_mem (l := S.C.shells) (k := y2) om9)
    have q2 := ind_bd hc hd9 (i := y2) om9
    have q3 := (sA_ok hc (k := y2) om9).loss
    have q4 := lost_bd (cur := (iA S.C.shells y2)) q3
    have hlp : 0 ≤ max (iA S.C.shells y2) (-(iA S.C.shells y2)) * (sA M y2).loss ∧ max (iA S.C.shells y2) (-(iA S.C.shells y2)) * (sA M y2).loss ≤ 1000000000000 := ⟨Int.mul_nonneg om9 om9, by have := Int.mul_le_mul (show max (iA S.C.shells y2) (-(iA S.C.shells y2)) ≤ 1000000 by omega) q3.2 om9 om9; omega⟩
    have hgt2 := mixC_old RS.Q.lb y2 (fun j => .int .i64 (shellN M S ch pl j)) (intsF S.C.shells) y2 om9 (Nat.le_refl _)
    have hset2 : (mixC RS.Q.lb y2 (fun j => .int .i64 (shellN M S ch pl j)) (intsF S.C.shells)).set y2 (.int .i64 (cutI ((iA S.C.shells y2) - lostI (iA S.C.shells y2) (sA M y2).loss - (indA M (appL M S ch) (diffL pl S.C.plasma) y2)) 1000000)) = mixC RS.Q.lb (y2 + 1) (fun j => .int .i64 (shellN M S ch pl j)) (intsF S.C.shells) := mixC_set RS.Q.lb y2 (fun j => .int .i64 (shellN M S ch pl j)) (intsF S.C.shells) om9
    refine ac_skip (aq_then (ac_seq (ac_block (ac_seq (ac_region ?_)))))
    refine al_p (q_move rfl) ?_
    refine al_p (q_indexAddrA (i := y2) (o71 + y2 * 1 + 0) hA7 rfl rfl rfl om9 Tryz.runUnderlying30 Tryz.sizeOf3 rfl) (al_p (q_loadX rfl Tryz.isAgg3 (fun w9 hs => (hs.cellOf (.head _) (N3.new _ _ hA7) hlt7 (hget7 y2 _ hx7 0 _ rfl)))) (al_p (q_assign rfl) (al_p (q_assign rfl) (al_end (aq_then ?_)))))
    refine ac_seq (ac_region ?_)
    refine al_p (q_move rfl) (al_p (q_nilCheckP rfl) ?_)
    refine al_p (q_fieldAddr 13 rfl Tryz.runUnderlying202 rfl Tryz.sizeOf35 de9 rfl) ?_
    refine al_p (q_fieldAddr 14 rfl Tryz.runUnderlying35 rfl Tryz.sizeOf32 de9 rfl) ?_
    refine al_p (q_fieldAddr 15 rfl Tryz.runUnderlying32 rfl Tryz.sizeOf30 de9 rfl) (al_p (q_load (i := 1) rfl rfl rfl Tryz.isAgg30) (al_p (q_move rfl) ?_))
    refine al_p (q_indexAddrA (i := y2) (y2) hB2 rfl rfl rfl om9 Tryz.runUnderlying30 Tryz.sizeOf3 om9) (al_p (q_loadX rfl Tryz.isAgg3 (fun w9 hs => hs.cellG hO2 (Tl.app (Tl.app (Tl.app (.s6 .z)))) hgt2)) (al_p (q_assign rfl) (al_end (aq_then ?_))))
    refine aq_keepL [0, 2, 3, 4, 18, 19, 20, 21, 22, 23, 24, 25, 26, 27, 28, 29, 30, 31, 32, 33] (.cons rfl (.cons rfl (.cons rfl (.cons rfl (.cons rfl (.cons rfl (.cons rfl (.cons rfl (.cons rfl (.cons rfl (.cons rfl (.cons rfl (.cons rfl (.cons rfl (.cons rfl (.cons rfl (.cons rfl (.cons rfl (.cons rfl (.cons rfl .nil)))))))))))))))))))) ?_
    refine ac_draw 25 kr9 kr9 ?_
    refine ah_t 0 (fun w9 hs => hs) rfl rfl kr9 (q_move rfl) (ah_t 1 (fun w9 hs => hs) rfl rfl kr9 (q_nilCheckP rfl) ?_)
    refine ah_t 2 (fun w9 hs => hs) rfl rfl kr9 (q_fieldAddr 13 rfl Tryz.runUnderlying202 rfl Tryz.sizeOf35 de9 rfl) ?_
    refine ah_t 3 (fun w9 hs => hs) rfl rfl kr9 (q_fieldAddr 14 rfl Tryz.runUnderlying35 rfl Tryz.sizeOf32 de9 rfl) ?_
    refine ah_t 4 (fun w9 hs => hs) rfl rfl kr9 (q_fieldAddr 15 rfl Tryz.runUnderlying32 rfl Tryz.sizeOf30 de9 rfl) (ah_t 5 (fun w9 hs => hs) rfl rfl kr9 (q_load (i := 1) rfl rfl rfl Tryz.isAgg30) (ah_t 6 (fun w9 hs => hs) rfl rfl kr9 (q_move rfl) (ah_t 7 (fun w9 hs => hs) rfl rfl kr9 (q_move rfl) (ah_t 8 (fun w9 hs => hs) rfl rfl kr9 (q_move rfl) ?_))))
    refine ah_t 9 (fun w9 hs => hs) rfl rfl kr9 (q_move rfl) (ah_t 10 (fun w9 hs => hs) rfl rfl kr9 (q_nilCheckP rfl) ?_)
    refine ah_t 11 (fun w9 hs => hs) rfl rfl kr9 (q_fieldAddr 0 rfl Tryz.runUnderlying202 rfl Tryz.sizeOf108 de9 rfl) ?_
    refine ah_t 12 (fun w9 hs => hs) rfl rfl kr9 (q_fieldAddr 0 rfl Tryz.runUnderlying108 rfl Tryz.sizeOf29 de9 rfl) ?_
    refine ah_t 13 (fun w9 hs => hs) rfl rfl kr9 (q_fieldAddr 2 rfl Tryz.runUnderlying29 rfl Tryz.sizeOf23 de9 rfl) (ah_t 14 (fun w9 hs => hs) rfl rfl kr9 (q_load (i := 1) rfl rfl rfl Tryz.isAgg23) (ah_t 15 (fun w9 hs => hs) rfl rfl kr9 (q_move rfl) ?_))
    refine ah_t 16 (fun w9 hs => hs) rfl rfl kr9 (q_indexAddrA (i := y2) (o21 + y2 * 4 + 0) hA2 rfl rfl rfl om9 Tryz.runUnderlying23 Tryz.sizeOf142 rfl) ?_
    refine ah_t 17 (fun w9 hs => hs) rfl rfl kr9 (q_fieldAddr (o21 + y2 * 4 + 3) rfl Tryz.runUnderlying142 rfl Tryz.sizeOf3 de9 rfl) (ah_t 18 (fun w9 hs => hs) rfl rfl kr9 (q_loadX rfl Tryz.isAgg3 (fun w9 hs => (hs.below.cell (p := ⟨_, _, none⟩) hlt2).trans ((hget2 y2 _ hx2) 3 _ rfl))) (ah_t 21 (fun w9 hs => hs) rfl rfl kr9 (q_move rfl) (ah_one 19 rfl kr9 (fun hok11 hcl11 => ?_))))
    refine al_call Tryz.call164 (.cons rfl (.cons rfl .nil)) rfl rfl (fun w6 hs6 => ?_)
    refine (clost_any (iA S.C.shells y2) (sA M y2).loss _ om9 hlp).mono ?_
    rintro e u6 ⟨rfl, hb_6⟩
    refine ⟨_, rfl, hb_6, ?_⟩
    clear hs6
    refine al_end (ah_back hok11 hcl11 (fun w9 hs => (hs.fewer 1 rfl)) ?_)
    refine ah_t 20 (fun w9 hs => (hs.fewer 1 rfl)) rfl rfl kr9 (q_sub rfl rfl om9) ?_
    refine ah_t 22 (fun w9 hs => (hs.fewer 1 rfl)) rfl rfl kr9 (q_sub rfl rfl om9) (ah_one 23 rfl kr9 (fun hok12 hcl12 => ?_))
    refine al_call Tryz.call163 (.cons rfl (.cons rfl .nil)) rfl rfl (fun w7 hs7 => ?_)
    refine (ccut_any ((iA S.C.shells y2) - lostI (iA S.C.shells y2) (sA M y2).loss - (indA M (appL M S ch) (diffL pl S.C.plasma) y2)) 1000000 _ om9).mono ?_
    rintro e u7 ⟨rfl, hb_7⟩
    refine ⟨_, rfl, hb_7, ?_⟩
    clear hs7
    refine al_end (ah_back hok12 hcl12 (fun w9 hs => (hs.fewer 2 rfl)) ?_)
    refine ah_t 24 (fun w9 hs => (hs.fewer 2 rfl)) rfl rfl kr9 (q_indexAddrA (i := y2) (y2) hB2 rfl rfl rfl om9 Tryz.runUnderlying30 Tryz.sizeOf3 om9) (ah_one 25 rfl kr9 (fun hok13 hcl13 => ?_))
    refine al_storeG hO2 rfl rfl rfl (Tl.app (Tl.app (Tl.app (.s6 .z)))) (by rw [mixC_len]; omega) Tryz.sizeOf3 (Tl.app (Tl.app (Tl.app (.s6 .z)))) rfl ?_
    refine al_end (ah_last kr9 ?_)
    refine aq_inN (aq_then (ac_region ?_))
    refine al_p (q_add rfl rfl om9) (al_p (q_move rfl) (al_end (aq_then ?_)))
    skip
    refine aq_round (y2 + 1) om9 om9 ⟨rfl, rfl, rfl, rfl, trivial⟩ (fun w9 hs => (by have h9 := (hs.fewer 2 rfl); rw [hset2] at h9; exact h9))
   ·have hye : y2 = R.lb := by have := of_decide_eq_false h2; omega
    subst hye
    refine ac_exit (aq_thenE (aq_thenE (aq_hit (retIN Tryz.results145 .nil .zero ?_))))
    refine al_end (aq_inN (aq_then (ac_region ?_)))
    refine al_p (q_same (v' := .int .i64 3) (q_add rfl rfl om9) rfl) (al_p (q_move rfl) (al_end (aq_then (aq_again ?_))))
    refine ac_seq (ac_region ?_)
    refine al_p (q_same (v' := .bool true) (q_lss rfl rfl) rfl) (al_end (aq_then ?_))
    refine ac_seq (ac_condT rfl (ac_skip (aq_then (ac_seq ?_))))
    refine ac_block (ac_seq (ac_region ?_))
    refine al_p (q_indexAddr (i := 3) 3 rfl rfl rfl de9 Tryz.runUnderlying204 Tryz.sizeOf1 rfl) (al_p (q_load (i := 0) rfl rfl rfl Tryz.isAgg1) (al_p (q_assign rfl) (al_end (aq_then ?_))))
    refine ac_region (al_p (q_move rfl) (al_inlV (fi := [(.pointer (some ⟨x.b, 0, none⟩))]) (ca := []) rfl Tryz.call146 .nil rfl rfl Tryz.func146 rfl rfl ?_))
    refine ac_seq (ac_region ?_)
    refine al_p (q_move rfl) (al_p (q_nilCheckP rfl) ?_)
    refine al_p (q_fieldAddr 0 rfl Tryz.runUnderlying202 rfl Tryz.sizeOf108 de9 rfl) ?_
    refine al_p (q_fieldAddr 0 rfl Tryz.runUnderlying108 rfl Tryz.sizeOf29 de9 rfl) ?_
    refine al_p (q_fieldAddr 1 rfl Tryz.runUnderlying29 rfl Tryz.sizeOf22 de9 rfl) (al_p (q_load (i := 1) rfl rfl rfl Tryz.isAgg22) (al_p (q_lenS rfl Tryz.runUnderlying22) (al_p (q_move rfl) (al_end (aq_then ?_)))))
    refine ac_block ?_
    refine ac_loop (β := Nat) (fun y3 => y3 ≤ R.la) (fun y3 => [(0, (.pointer (some ⟨x.b, 0, none⟩))), (11, (.slice (R.A) R.la R.ca)), (12, (.int .i64 (R.la : Int))), (13, (.int .i64 (y3 : Int)))]) (fun _ => _) (fun y3 => (b7, _) :: (x.b, _) :: (b4, _) :: (b3, _) :: (b2, _) :: (b1, _) :: (gt x.o5 (lst RS.lt (boolsF S.trip)) ++ (gt x.o4 (mixC RS.lh y3 (fun j => .int .i64 (heatN M S ch j)) (intsF S.heat)) ++ (gt x.o3 (lst RS.Q.lc (intsF pl)) ++ (gt x.o2 (mixC RS.Q.lb R.lb (fun j => .int .i64 (shellN M S ch pl j)) (intsF S.C.shells)) ++ (gt x.o1 (mixC RS.Q.la R.la (fun j => .int .i64 (coilN M S ch j)) (intsF S.C.coils)) ++ ([]))))))) (fun y3 => R.la - y3) 0 om9 ⟨rfl, rfl, rfl, rfl, trivial⟩ (fun w9 hs => (by rw [mixC_zero]; exact hs)) (fun y3 hF3 => ?_)
    refine ac_seq (ac_region ?_)
    refine al_p (q_lss rfl rfl) (al_end (aq_then ?_))
    refine ac_seq ?_
    refine ac_cond rfl (fun h3 => ?_) (fun h3 => ?_)
    ·have hyl : y3 < R.la := by have := of_decide_eq_true h3; omega
     obtain ⟨d1, e1, sp1, hO1⟩ := hF9.g1.some om9
     have hB1 : gA x.o1 = some ⟨d1, 0, none⟩ := by rw [hO1]; rfl
     obtain ⟨d4, e4, sp4, hO4⟩ := hF9.g4.some om9
     have hB4 : gA x.o4 = some ⟨d4, 0, none⟩ := by rw [hO4]; rfl
     obtain ⟨b11, o11, hA1, hlt1, hget1⟩ := hM.coils.2 om9
     have hx1 := cA_get (M := M) (k := y3) om9
     have hco := cA_ok hc (k := y3) om9
     have q1 := new_bd hco (ch := iA ch y3) (t := bA S.trip y3) (hF.cur.coils.2 _ (iA_mem (l := S.C.coils) (k := y3) om9))
     have q2 : -1000000 ≤ coilN M S ch y3 ∧ coilN M S ch y3 ≤ 1000000 := q1
     have q3 := sq6_bd q2
     have q4 := hF.heat.2 _ (iA_mem (l := S.heat) (k := y3) om9)
     have q5 : 0 ≤ (coilN M S ch y3 * coilN M S ch y3).tdiv 1000 ∧ (coilN M S ch y3 * coilN M S ch y3).tdiv 1000 ≤ 1000000000000 := by rw [Int.tdiv_eq_ediv_of_nonneg q3.1]; omega
     have q6 := hco.cool
     have hgc3 := mixC_new RS.Q.la R.la (fun j => .int .i64 (coilN M S ch j)) (intsF S.C.coils) y3 om9 hyl
     have hgt3 := mixC_old RS.lh y3 (fun j => .int .i64 (heatN M S ch j)) (intsF S.heat) y3 om9 (Nat.le_refl _)
     have hset3 : (mixC RS.lh y3 (fun j => .int .i64 (heatN M S ch j)) (intsF S.heat)).set y3 (.int .i64 (max 0 (min (iA S.heat y3 + (coilN M S ch y3 * coilN M S ch y3).tdiv 1000 - (cA M y3).cool) 1000000000000000))) = mixC RS.lh (y3 + 1) (fun j => .int .i64 (heatN M S ch j)) (intsF S.heat) := mixC_set RS.lh y3 (fun j => .int .i64 (heatN M S ch j)) (intsF S.heat) om9
     refine ac_skip (aq_then (ac_seq (ac_block (ac_seq (ac_region ?_)))))
     refine al_p (q_move rfl) ?_
     refine al_p (q_indexAddrA (i := y3) (o11 + y3 * 8 + 0) hA1 rfl rfl rfl om9 Tryz.runUnderlying22 Tryz.sizeOf51 rfl) (al_p (q_loadXs (CoilD.cells (cA M y3)) rfl Tryz.isAgg51 Tryz.sizeOf51 (fun w9 hs j9 v9 h9 => by rw [addr_add]; exact (hs.below.cell (p := ⟨_, _, none⟩) hlt1).trans ((hget1 y3 _ hx1) j9 v9 h9)) rfl) (al_new (fun b => .pointer (some ⟨b, 0, none⟩)) (r_alloc Tryz.zeroValue51 rfl) rfl rfl rfl ?_))
     intro b8
     refine al_p (q_assign rfl) (al_storeAll (i := 0) rfl rfl rfl rfl Tryz.sizeOf51 rfl rfl .k0 rfl (al_end (aq_then ?_)))
     refine ac_seq (ac_region ?_)
     refine al_p (q_move rfl) (al_p (q_nilCheckP rfl) ?_)
     refine al_p (q_fieldAddr 13 rfl Tryz.runUnderlying202 rfl Tryz.sizeOf35 de9 rfl) ?_
     refine al_p (q_fieldAddr 14 rfl Tryz.runUnderlying35 rfl Tryz.sizeOf32 de9 rfl) ?_
     refine al_p (q_fieldAddr 14 rfl Tryz.runUnderlying32 rfl Tryz.sizeOf30 de9 rfl) (al_p (q_load (i := 2) rfl rfl rfl Tryz.isAgg30) (al_p (q_move rfl) ?_))
     refine al_p (q_indexAddrA (i := y3) (y3) hB1 rfl rfl rfl om9 Tryz.runUnderlying30 Tryz.sizeOf3 om9) (al_p (q_loadX rfl Tryz.isAgg3 (fun w9 hs => hs.cellG hO1 (Tl.app (Tl.app (Tl.app (Tl.app (.s7 .z))))) hgc3)) (al_p (q_assign rfl) (al_end (aq_then ?_))))
     refine ac_seq (ac_draw 16 kr9 kr9 ?_)
     refine ah_t 0 (fun w9 hs => hs) rfl rfl kr9 (q_move rfl) (ah_t 1 (fun w9 hs => hs) rfl rfl kr9 (q_nilCheckP rfl) ?_)
     refine ah_t 2 (fun w9 hs => hs) rfl rfl kr9 (q_fieldAddr 13 rfl Tryz.runUnderlying202 rfl Tryz.sizeOf35 de9 rfl) ?_
     refine ah_t 3 (fun w9 hs => hs) rfl rfl kr9 (q_fieldAddr 17 rfl Tryz.runUnderlying35 rfl Tryz.sizeOf30 de9 rfl) (ah_t 4 (fun w9 hs => hs) rfl rfl kr9 (q_load (i := 2) rfl rfl rfl Tryz.isAgg30) (ah_t 5 (fun w9 hs => hs) rfl rfl kr9 (q_move rfl) ?_))
     refine ah_t 6 (fun w9 hs => hs) rfl rfl kr9 (q_indexAddrA (i := y3) (y3) hB4 rfl rfl rfl om9 Tryz.runUnderlying30 Tryz.sizeOf3 om9) (ah_t 7 (fun w9 hs => hs) rfl rfl kr9 (q_loadX rfl Tryz.isAgg3 (fun w9 hs => hs.cellG hO4 (Tl.app (.s7 .z)) hgt3)) (ah_t 8 (fun w9 hs => hs) rfl rfl kr9 (q_move rfl) (ah_t 9 (fun w9 hs => hs) rfl rfl kr9 (q_move rfl) ?_)))
     refine ah_t 10 (fun w9 hs => hs) rfl rfl kr9 (q_mul rfl rfl om9) ?_
     refine ah_t 11 (fun w9 hs => hs) rfl rfl kr9 (q_quo rfl rfl om9) ?_
     refine ah_t 12 (fun w9 hs => hs) rfl rfl kr9 (q_add rfl rfl om9) ?_
     refine ah_t 13 (fun w9 hs => hs) rfl rfl kr9 (q_fieldAddr 7 rfl Tryz.runUnderlying51 rfl Tryz.sizeOf3 de9 rfl) (ah_t 14 (fun w9 hs => hs) rfl rfl kr9 (q_load (i := 0) rfl rfl rfl Tryz.isAgg3) ?_)
     refine ah_t 15 (fun w9 hs => hs) rfl rfl kr9 (q_sub rfl rfl om9) (ah_one 16 rfl kr9 (fun hok14 hcl14 => ?_))
     refine al_p (q_assign rfl) (al_end (ah_last kr9 ?_))
     refine aq_then (aq_keepL [0, 2, 3, 4, 5, 11, 12, 13, 14, 15, 16, 17, 18, 19, 20, 21, 22, 23, 24, 25, 26, 27, 28, 29, 30, 31, 32, 33, 34, 35, 36, 37, 38, 39, 40, 41, 42] (.cons rfl (.cons rfl (.cons rfl (.cons rfl (.cons rfl (.cons rfl (.cons rfl (.cons rfl (.cons rfl (.cons rfl (.cons rfl (.cons rfl (.cons rfl (.cons rfl (.cons rfl (.cons rfl (.cons rfl (.cons rfl (.cons rfl (.cons rfl (.cons rfl (.cons rfl (.cons rfl (.cons rfl (.cons rfl (.cons rfl (.cons rfl (.cons rfl (.cons rfl (.cons rfl (.cons rfl (.cons rfl (.cons rfl (.cons rfl (.cons rfl (.cons rfl (.cons rfl .nil))))))))))))))))))))))))))))))))))))) ?_)
     refine ac_region (al_p (q_move rfl) (al_p (q_nilCheckP rfl) ?_))
     refine al_p (q_fieldAddr 13 rfl Tryz.runUnderlying202 rfl Tryz.sizeOf35 de9 rfl) ?_
     refine al_p (q_fieldAddr 17 rfl Tryz.runUnderlying35 rfl Tryz.sizeOf30 de9 rfl) (al_p (q_load (i := 2) rfl rfl rfl Tryz.isAgg30) (al_p (q_move rfl) (al_p (q_move rfl) (al_p (q_min rfl rfl) ?_))))
     refine al_p (q_max rfl rfl) ?_
     refine al_p (q_indexAddrA (i := y3) (y3) hB4 rfl rfl rfl om9 Tryz.runUnderlying30 Tryz.sizeOf3 om9) ?_
     refine al_storeG hO4 rfl rfl rfl (Tl.app (.s7 .z)) (by rw [mixC_len]; omega) Tryz.sizeOf3 (Tl.app (.s7 .z)) rfl ?_
     refine al_end (aq_inN (aq_then (ac_region ?_)))
     refine al_p (q_add rfl rfl om9) (al_p (q_move rfl) (al_end (aq_then ?_)))
     skip
     refine aq_round (y3 + 1) om9 om9 ⟨rfl, rfl, rfl, rfl, trivial⟩ (fun w9 hs => (by have h9 := (hs.tail 1 rfl); rw [hset3] at h9; exact h9))
    ·have hye : y3 = R.la := by have := of_decide_eq_false h3; omega
     subst hye
     refine ac_exit (aq_thenE (aq_thenE (aq_hit (retIN Tryz.results146 .nil .zero ?_))))
     refine al_end (aq_inN (aq_then (ac_region ?_)))
     refine al_p (q_same (v' := .int .i64 4) (q_add rfl rfl om9) rfl) (al_p (q_move rfl) (al_end (aq_then (aq_again ?_))))
     refine ac_seq (ac_region ?_)
     refine al_p (q_same (v' := .bool true) (q_lss rfl rfl) rfl) (al_end (aq_then ?_))
     refine ac_seq (ac_condT rfl (ac_skip (aq_then (ac_seq ?_))))
     refine ac_block (ac_seq (ac_region ?_))
     refine al_p (q_indexAddr (i := 4) 4 rfl rfl rfl de9 Tryz.runUnderlying204 Tryz.sizeOf1 rfl) (al_p (q_load (i := 0) rfl rfl rfl Tryz.isAgg1) (al_p (q_assign rfl) (al_end (aq_then ?_))))
     refine ac_region (al_p (q_move rfl) (al_inlV (fi := [(.pointer (some ⟨x.b, 0, none⟩))]) (ca := []) rfl Tryz.call147 .nil rfl rfl Tryz.func147 rfl rfl ?_))
     refine ac_seq (ac_region ?_)
     refine al_p (q_move rfl) (al_p (q_nilCheckP rfl) ?_)
     refine al_p (q_fieldAddr 0 rfl Tryz.runUnderlying202 rfl Tryz.sizeOf108 de9 rfl) ?_
     refine al_p (q_fieldAddr 0 rfl Tryz.runUnderlying108 rfl Tryz.sizeOf29 de9 rfl) ?_
     refine al_p (q_fieldAddr 1 rfl Tryz.runUnderlying29 rfl Tryz.sizeOf22 de9 rfl) (al_p (q_load (i := 1) rfl rfl rfl Tryz.isAgg22) (al_p (q_lenS rfl Tryz.runUnderlying22) (al_p (q_move rfl) (al_end (aq_then ?_)))))
     refine ac_block ?_
     refine ac_loop (β := Nat) (fun y4 => y4 ≤ R.la) (fun y4 => [(0, (.pointer (some ⟨x.b, 0, none⟩))), (10, (.slice (R.A) R.la R.ca)), (11, (.int .i64 (R.la : Int))), (12, (.int .i64 (y4 : Int)))]) (fun _ => _) (fun y4 => (b7, _) :: (x.b, _) :: (b4, _) :: (b3, _) :: (b2, _) :: (b1, _) :: (gt x.o5 (mixC RS.lt y4 (fun j => .bool (tripN M S ch j)) (boolsF S.trip)) ++ (gt x.o4 (mixC RS.lh R.la (fun j => .int .i64 (heatN M S ch j)) (intsF S.heat)) ++ (gt x.o3 (lst RS.Q.lc (intsF pl)) ++ (gt x.o2 (mixC RS.Q.lb R.lb (fun j => .int .i64 (shellN M S ch pl j)) (intsF S.C.shells)) ++ (gt x.o1 (mixC RS.Q.la R.la (fun j => .int .i64 (coilN M S ch j)) (intsF S.C.coils)) ++ ([]))))))) (fun y4 => R.la - y4) 0 om9 ⟨rfl, rfl, rfl, rfl, trivial⟩ (fun w9 hs => (by rw [mixC_zero]; exact hs)) (fun y4 hF4 => ?_)
     refine ac_seq (ac_region ?_)
     refine al_p (q_lss rfl rfl) (al_end (aq_then ?_))
     refine ac_seq ?_
     refine ac_cond rfl (fun h4 => ?_) (fun h4 => ?_)
     ·have hyl : y4 < R.la := by have := of_decide_eq_true h4; omega
      obtain ⟨d1, e1, sp1, hO1⟩ := hF9.g1.some om9
      have hB1 : gA x.o1 = some ⟨d1, 0, none⟩ := by rw [hO1]; rfl
      obtain ⟨d4, e4, sp4, hO4⟩ := hF9.g4.some om9
      have hB4 : gA x.o4 = some ⟨d4, 0, none⟩ := by rw [hO4]; rfl
      obtain ⟨d5, e5, sp5, hO5⟩ := hF9.g5.some om9
      have hB5 : gA x.o5 = some ⟨d5, 0, none⟩ := by rw [hO5]; rfl
      obtain ⟨b11, o11, hA1, hlt1, hget1⟩ := hM.coils.2 om9
      have hx1 := cA_get (M := M) (k := y4) om9
      have hco := (cA_ok hc (k := y4) om9).heat
      have hgc4 := mixC_new RS.Q.la R.la (fun j => .int .i64 (coilN M S ch j)) (intsF S.C.coils) y4 om9 hyl
      have hgh4 := mixC_new RS.lh R.la (fun j => .int .i64 (heatN M S ch j)) (intsF S.heat) y4 om9 hyl
      have hTd : tripN M S ch y4 = if (cA M y4).heat < heatN M S ch y4 then true else if coilN M S ch y4 = 0 ∧ heatN M S ch y4 ≤ (cA M y4).heat.tdiv 2 then false else bA S.trip y4 := rfl
      refine ac_skip (aq_then (ac_seq (ac_block (ac_seq (ac_region ?_)))))
      refine al_p (q_move rfl) ?_
      refine al_p (q_indexAddrA (i := y4) (o11 + y4 * 8 + 0) hA1 rfl rfl rfl om9 Tryz.runUnderlying22 Tryz.sizeOf51 rfl) (al_p (q_loadXs (CoilD.cells (cA M y4)) rfl Tryz.isAgg51 Tryz.sizeOf51 (fun w9 hs j9 v9 h9 => by rw [addr_add]; exact (hs.below.cell (p := ⟨_, _, none⟩) hlt1).trans ((hget1 y4 _ hx1) j9 v9 h9)) rfl) (al_new (fun b => .pointer (some ⟨b, 0, none⟩)) (r_alloc Tryz.zeroValue51 rfl) rfl rfl rfl ?_))
      intro b9
      refine al_p (q_assign rfl) (al_storeAll (i := 0) rfl rfl rfl rfl Tryz.sizeOf51 rfl rfl .k0 rfl (al_end (aq_then ?_)))
      refine ac_seq (ac_region ?_)
      refine al_p (q_move rfl) (al_p (q_nilCheckP rfl) ?_)
      refine al_p (q_fieldAddr 13 rfl Tryz.runUnderlying202 rfl Tryz.sizeOf35 de9 rfl) ?_
      refine al_p (q_fieldAddr 17 rfl Tryz.runUnderlying35 rfl Tryz.sizeOf30 de9 rfl) (al_p (q_load (i := 2) rfl rfl rfl Tryz.isAgg30) (al_p (q_move rfl) ?_))
      refine al_p (q_indexAddrA (i := y4) (y4) hB4 rfl rfl rfl om9 Tryz.runUnderlying30 Tryz.sizeOf3 om9) (al_p (q_loadX rfl Tryz.isAgg3 (fun w9 hs => hs.cellG hO4 (Tl.app (.s7 .z)) hgh4)) (al_p (q_assign rfl) (al_end (aq_then ?_))))
      refine ac_block (ac_seq (ac_region ?_))
      refine al_p (q_move rfl) ?_
      refine al_p (q_fieldAddr 6 rfl Tryz.runUnderlying51 rfl Tryz.sizeOf3 de9 rfl) (al_p (q_load (i := 0) rfl rfl rfl Tryz.isAgg3) (al_p (q_gtr rfl rfl) (al_p (q_assign rfl) (al_end (aq_then ?_)))))
      refine ac_cond rfl (fun h5 => ?_) (fun h5 => ?_)
      ·rw [if_pos (by have := of_decide_eq_true h5; omega)] at hTd
       have hset4 : (mixC RS.lt y4 (fun j => .bool (tripN M S ch j)) (boolsF S.trip)).set y4 (.bool true) = mixC RS.lt (y4 + 1) (fun j => .bool (tripN M S ch j)) (boolsF S.trip) := by rw [← mixC_set RS.lt y4 (fun j => .bool (tripN M S ch j)) (boolsF S.trip) om9, hTd]
       refine ac_region (al_p (q_move rfl) (al_p (q_nilCheckP rfl) ?_))
       refine al_p (q_fieldAddr 13 rfl Tryz.runUnderlying202 rfl Tryz.sizeOf35 de9 rfl) ?_
       refine al_p (q_fieldAddr 18 rfl Tryz.runUnderlying35 rfl Tryz.sizeOf33 de9 rfl) (al_p (q_load (i := 2) rfl rfl rfl Tryz.isAgg33) (al_p (q_move rfl) ?_))
       refine al_p (q_indexAddrA (i := y4) (y4) hB5 rfl rfl rfl om9 Tryz.runUnderlying33 Tryz.sizeOf4 om9) ?_
       refine al_storeG hO5 rfl rfl rfl (.s7 .z) (by rw [mixC_len]; omega) Tryz.sizeOf4 (.s7 .z) rfl ?_
       refine al_end (aq_inN (aq_inN (aq_then (ac_region ?_))))
       refine al_p (q_add rfl rfl om9) (al_p (q_move rfl) (al_end (aq_then ?_)))
       skip
       refine aq_round (y4 + 1) om9 om9 ⟨rfl, rfl, rfl, rfl, trivial⟩ (fun w9 hs => (by have h9 := (hs.tail 1 rfl); rw [hset4] at h9; exact h9))
      ·rw [if_neg (by have := of_decide_eq_false h5; omega)] at hTd
       refine ac_seq (ac_region ?_)
       refine al_p (q_move rfl) (al_p (q_nilCheckP rfl) ?_)
       refine al_p (q_fieldAddr 13 rfl Tryz.runUnderlying202 rfl Tryz.sizeOf35 de9 rfl) ?_
       refine al_p (q_fieldAddr 14 rfl Tryz.runUnderlying35 rfl Tryz.sizeOf32 de9 rfl) ?_
       refine al_p (q_fieldAddr 14 rfl Tryz.runUnderlying32 rfl Tryz.sizeOf30 de9 rfl) (al_p (q_load (i := 2) rfl rfl rfl Tryz.isAgg30) (al_p (q_move rfl) ?_))
       refine al_p (q_indexAddrA (i := y4) (y4) hB1 rfl rfl rfl om9 Tryz.runUnderlying30 Tryz.sizeOf3 om9) (al_p (q_loadX rfl Tryz.isAgg3 (fun w9 hs => hs.cellG hO1 (Tl.app (Tl.app (Tl.app (Tl.app (.s7 .z))))) hgc4)) (al_p (q_eql rfl rfl) (al_p (q_move rfl) ?_)))
       refine aq_split 48 rfl (fun hb1 => ?_) (fun hb1 => ?_)
       ·have hz := of_decide_eq_true hb1
        refine al_p (q_move rfl) ?_
        refine al_p (q_fieldAddr 6 rfl Tryz.runUnderlying51 rfl Tryz.sizeOf3 de9 rfl) (al_p (q_load (i := 0) rfl rfl rfl Tryz.isAgg3) ?_)
        refine al_p (q_quo rfl rfl om9) (al_p (q_leq rfl rfl) (al_p (q_pickT rfl rfl) (al_p (q_assign rfl) (al_end (aq_then ?_)))))
        refine aq_keepL [0, 2, 3, 4, 10, 11, 12, 13, 14, 15, 16, 17, 18, 19, 20, 21, 22, 23, 24, 25, 26, 27, 28, 29, 37, 38, 39, 40, 41, 42, 43, 44, 45, 46, 47, 48, 49, 50, 51, 52, 53, 54] (.cons rfl (.cons rfl (.cons rfl (.cons rfl (.cons rfl (.cons rfl (.cons rfl (.cons rfl (.cons rfl (.cons rfl (.cons rfl (.cons rfl (.cons rfl (.cons rfl (.cons rfl (.cons rfl (.cons rfl (.cons rfl (.cons rfl (.cons rfl (.cons rfl (.cons rfl (.cons rfl (.cons rfl (.cons rfl (.cons rfl (.cons rfl (.cons rfl (.cons rfl (.cons rfl (.cons rfl (.cons rfl (.cons rfl (.cons rfl (.cons rfl (.cons rfl (.cons rfl (.cons rfl (.cons rfl (.cons rfl (.cons rfl (.cons rfl .nil)))))))))))))))))))))))))))))))))))))))))) ?_
        refine ac_cond rfl (fun h6 => ?_) (fun h6 => ?_)
        ·rw [if_pos ⟨hz, of_decide_eq_true h6⟩] at hTd
         have hset4 : (mixC RS.lt y4 (fun j => .bool (tripN M S ch j)) (boolsF S.trip)).set y4 (.bool false) = mixC RS.lt (y4 + 1) (fun j => .bool (tripN M S ch j)) (boolsF S.trip) := by rw [← mixC_set RS.lt y4 (fun j => .bool (tripN M S ch j)) (boolsF S.trip) om9, hTd]
         refine ac_region (al_p (q_move rfl) (al_p (q_nilCheckP rfl) ?_))
         refine al_p (q_fieldAddr 13 rfl Tryz.runUnderlying202 rfl Tryz.sizeOf35 de9 rfl) ?_
         refine al_p (q_fieldAddr 18 rfl Tryz.runUnderlying35 rfl Tryz.sizeOf33 de9 rfl) (al_p (q_load (i := 2) rfl rfl rfl Tryz.isAgg33) (al_p (q_move rfl) ?_))
         refine al_p (q_indexAddrA (i := y4) (y4) hB5 rfl rfl rfl om9 Tryz.runUnderlying33 Tryz.sizeOf4 om9) ?_
         refine al_storeG hO5 rfl rfl rfl (.s7 .z) (by rw [mixC_len]; omega) Tryz.sizeOf4 (.s7 .z) rfl ?_
         refine al_end (aq_inN (aq_inN (aq_then (ac_region ?_))))
         refine al_p (q_add rfl rfl om9) (al_p (q_move rfl) (al_end (aq_then ?_)))
         skip
         refine aq_round (y4 + 1) om9 om9 ⟨rfl, rfl, rfl, rfl, trivial⟩ (fun w9 hs => (by have h9 := (hs.tail 1 rfl); rw [hset4] at h9; exact h9))
        ·rw [if_neg (fun h => of_decide_eq_false h6 h.2)] at hTd
         have hset4 : mixC RS.lt y4 (fun j => .bool (tripN M S ch j)) (boolsF S.trip) = mixC RS.lt (y4 + 1) (fun j => .bool (tripN M S ch j)) (boolsF S.trip) := mixC_skip (by rw [hTd])
         refine ac_skip (aq_inN (aq_inN (aq_then (ac_region ?_))))
         refine al_p (q_add rfl rfl om9) (al_p (q_move rfl) (al_end (aq_then ?_)))
         skip
         refine aq_round (y4 + 1) om9 om9 ⟨rfl, rfl, rfl, rfl, trivial⟩ (fun w9 hs => (by have h9 := (hs.tail 1 rfl); rw [hset4] at h9; exact h9))
       ·have hz := of_decide_eq_false hb1
        rw [if_neg (fun h => hz h.1)] at hTd
        have hset4 : mixC RS.lt y4 (fun j => .bool (tripN M S ch j)) (boolsF S.trip) = mixC RS.lt (y4 + 1) (fun j => .bool (tripN M S ch j)) (boolsF S.trip) := mixC_skip (by rw [hTd])
        refine al_skip rfl rfl rfl (al_skip rfl rfl rfl (al_skip rfl rfl rfl (al_skip rfl rfl rfl (al_skip rfl rfl rfl ?_))))
        refine al_p (q_pickF rfl rfl) (al_p (q_assign rfl) (al_end (aq_then ?_)))
        refine ac_condF rfl (ac_skip (aq_inN (aq_inN (aq_then ?_))))
        refine ac_region ?_
        refine al_p (q_add rfl rfl om9) (al_p (q_move rfl) (al_end (aq_then ?_)))
        skip
        refine aq_round (y4 + 1) om9 om9 ⟨rfl, rfl, rfl, rfl, trivial⟩ (fun w9 hs => (by have h9 := (hs.tail 1 rfl); rw [hset4] at h9; exact h9))
     ·have hye : y4 = R.la := by have := of_decide_eq_false h4; omega
      subst hye
      refine ac_exit (aq_thenE (aq_thenE (aq_hit (retIN Tryz.results147 .nil .zero ?_))))
      refine al_end (aq_inN (aq_then (ac_region ?_)))
      refine al_p (q_same (v' := .int .i64 5) (q_add rfl rfl om9) rfl) (al_p (q_move rfl) (al_end (aq_then (aq_again ?_))))
      refine ac_seq (ac_region ?_)
      refine al_p (q_same (v' := .bool true) (q_lss rfl rfl) rfl) (al_end (aq_then ?_))
      refine ac_seq (ac_condT rfl (ac_skip (aq_then (ac_seq ?_))))
      refine ac_block (ac_seq (ac_region ?_))
      refine al_p (q_indexAddr (i := 5) 5 rfl rfl rfl de9 Tryz.runUnderlying204 Tryz.sizeOf1 rfl) (al_p (q_load (i := 0) rfl rfl rfl Tryz.isAgg1) (al_p (q_assign rfl) (al_end (aq_then ?_))))
      refine ac_region (al_p (q_move rfl) (al_inlV (fi := [(.pointer (some ⟨x.b, 0, none⟩))]) (ca := []) rfl Tryz.call148 .nil rfl rfl Tryz.func148 rfl rfl ?_))
      refine ac_region (al_p (q_move rfl) (al_p (q_nilCheckP rfl) ?_))
      refine al_p (q_fieldAddr 13 rfl Tryz.runUnderlying202 rfl Tryz.sizeOf35 de9 rfl) ?_
      refine al_p (q_fieldAddr 13 rfl Tryz.runUnderlying35 rfl Tryz.sizeOf3 de9 rfl) (al_p (q_load (i := 1) rfl rfl rfl Tryz.isAgg3) ?_)
      refine al_p (q_add rfl rfl om9) (al_p (q_nilCheckP rfl) ?_)
      refine al_p (q_fieldAddr 13 rfl Tryz.runUnderlying202 rfl Tryz.sizeOf35 de9 rfl) ?_
      refine al_p (q_fieldAddr 13 rfl Tryz.runUnderlying35 rfl Tryz.sizeOf3 de9 rfl) (al_store1 (i := 1) rfl rfl rfl rfl Tryz.sizeOf3 .k13 .k1 rfl (al_end (retIN Tryz.results148 .nil .zero ?_)))
      refine al_end (aq_inN (aq_then (ac_region ?_)))
      refine al_p (q_same (v' := .int .i64 6) (q_add rfl rfl om9) rfl) (al_p (q_move rfl) (al_end (aq_then (aq_again ?_))))
      refine ac_seq (ac_region ?_)
      refine al_p (q_same (v' := .bool false) (q_lss rfl rfl) rfl) (al_end (aq_then ?_))
      refine ac_seq (ac_condF rfl (ac_exit (aq_thenE (aq_thenE ?_))))
      refine aq_hit (aq_then (ac_seq (ac_region ?_)))
      refine al_p (q_fieldAddr 13 rfl Tryz.runUnderlying202 rfl Tryz.sizeOf35 de9 rfl) (al_p (q_loadSub (i := 1) rfl rfl Tryz.isAgg35 Tryz.sizeOf35 .k13 .k6) (al_storeAll (i := 2) rfl rfl rfl rfl Tryz.sizeOf35 rfl rfl .k2 rfl (al_end (aq_then ?_))))
      refine ac_ret (retR Tryz.results99 (.agg (i := 2) rfl rfl Tryz.isAgg35 Tryz.sizeOf35 rfl .nil) .one (fun w9 hs => ?_))
      have z1 : mixC RS.Q.la R.la (fun j => .int .i64 (coilN M S ch j)) (intsF S.C.coils) = lst RS.Q.la (fun j => .int .i64 (coilN M S ch j)) := by rw [show R.la = RS.Q.la by omega, mixC_all]
      have z2 : mixC RS.Q.lb R.lb (fun j => .int .i64 (shellN M S ch pl j)) (intsF S.C.shells) = lst RS.Q.lb (fun j => .int .i64 (shellN M S ch pl j)) := by rw [show R.lb = RS.Q.lb by omega, mixC_all]
      have z4 : mixC RS.lh R.la (fun j => .int .i64 (heatN M S ch j)) (intsF S.heat) = lst RS.lh (fun j => .int .i64 (heatN M S ch j)) := by rw [show R.la = RS.lh by omega, mixC_all]
      have z5 : mixC RS.lt R.la (fun j => .bool (tripN M S ch j)) (boolsF S.trip) = lst RS.lt (fun j => .bool (tripN M S ch j)) := by rw [show R.la = RS.lt by omega, mixC_all]
      have h9 := ((hs.tail 6 rfl).firstSnaps 0 rfl).defer (D' := []) 0
      rw [z1, z2, z4, z5] at h9
      exact ⟨x, rfl, hF9, h9⟩
end
end Go.Proofs.YthggkidiidnaoaaGreat
