import Derived.Test.YthggkidiidnaoaaGreatWAA
import Derived.Test.YthggkidiidnaoaaGreatWBJ
import Derived.Test.YthggkidiidnaoaaGreatWBK
import Derived.Test.YthggkidiidnaoaaGreatRows
import Derived.KernelRfl
import Derived.Laws.StructEq
namespace Go.Proofs.YthggkidiidnaoaaGreat
set_option linter.unusedVariables false
set_option linter.unusedSimpArgs false
section
open Go.RowKit
theorem ac_drawH {P : Program} {e0 : Cfg} {U : Snaps} {l : Slots} {L L1 G L0 : Boxes} {Q : Exit → Act → World → Prop} {id : Nat} {os : List Oper} (k last : Nat) (hT : Tl L1 G L) (hL : L1.drop k = L0) (hm : P.follows .mixedOrders = true) (hok : lastOk os.toArray last = true) (h : AH P os.toArray Q U L0 last os.toArray.size (Array.replicate os.toArray.size false) e0 U l L) : AC P e0 U l L (.region id os.toArray true) Q :=
 fun a w hf hs => wp_region_any hm (wpAny_of_G _ _ _ _ (h hok (DrawnTo.start _ _) a _ hf hs.drew))
theorem aq_rotT {E : Cfg} {U : Snaps} {l : Slots} {L L' L1 A B C G : Boxes} {X : Act → World → Prop} (hT : Tl L1 (A ++ (B ++ (C ++ G))) L) (hT' : Tl L1 (B ++ (C ++ (A ++ G))) L') (h : AQ E U l L' X) : AQ E U l L X := fun a w hf hs => h a w hf (by
 refine hs.perm ?_
 rw [hT.eq, hT'.eq]
 refine List.Perm.append_left L1 ?_
 have e : B ++ (C ++ (A ++ G)) = (B ++ C) ++ (A ++ G) := by simp
 rw [e, ← List.append_assoc B C G]
 rw [← List.append_assoc A (B ++ C) G, ← List.append_assoc (B ++ C) A G]
 exact List.Perm.append_right G List.perm_append_comm)
theorem flat_bool (l : List Bool) : l.flatMap boolCells = l.map Value.bool := by
 induction l with
 | nil => rfl
 | cons x l ih => rw [List.flatMap_cons, ih]; rfl
theorem trip_off {c : CoilD} {cur heat : Int} {t : Bool} (h1 : cur = 0) (h2 : heat ≤ c.heat.tdiv 2) (hc : 1 ≤ c.heat) : tripI c cur heat t = false := by
 have : c.heat.tdiv 2 ≤ c.heat := by rw [Int.tdiv_eq_ediv_of_nonneg om9]; omega
 unfold tripI; rw [if_neg om9, if_pos ⟨h1, h2⟩]
theorem trip_on {c : CoilD} {cur heat : Int} (h : ¬ (cur = 0 ∧ heat ≤ c.heat.tdiv 2)) : tripI c cur heat true = true := by
 unfold tripI; rw [if_neg h]; split <;> rfl
theorem trip_new {c : CoilD} {cur heat : Int} (h : ¬ (cur = 0 ∧ heat ≤ c.heat.tdiv 2)) : tripI c cur heat false = decide (heat > c.heat) := by
 unfold tripI; rw [if_neg h]
 by_cases g : c.heat < heat
 ·rw [if_pos g, decide_eq_true g]
 ·rw [if_neg g, decide_eq_false g]
theorem trip_or {c : CoilD} {cur heat : Int} {t : Bool} (h : ¬ (cur = 0 ∧ heat ≤ c.heat.tdiv 2)) : (t || decide (heat > c.heat)) = tripI c cur heat t := by
 cases t
 ·rw [trip_new h]; rfl
 ·rw [trip_on h]; rfl
theorem appL_valid {M : MachD} {S : StD} {ch : List Int} (h : FitS M S) : validCh M (appL M S ch) 1000000 = true := validCh_iff.2 ⟨lst_length _ _, app_all h⟩
set_option maxRecDepth 100000 in
theorem rcutH_any (n : Int) (w : World) : Calls Tryz.prog 84 #[(.int .i64 n), (.int .i64 0), (.int .i64 1000000000000000)] w (Ret (.int .i64 (max 0 (min n 1000000000000000))) w) := by
 refine calls_ax (vs := [(.int .i64 n), (.int .i64 0), (.int .i64 1000000000000000)]) Tryz.func84 rfl rfl ?_
 refine ac_seq (ac_region ?_)
 refine al_p (q_assign rfl) (al_end (aq_then ?_))
 refine ac_seq (ac_seq (ac_region ?_))
 refine al_p (q_move rfl) (al_p (q_move rfl) (al_p (q_lss rfl rfl) (al_end (aq_then ?_))))
 refine ac_cond rfl (fun h1 => ?_) (fun h1 => ?_)
 ·refine ac_seq (ac_region ?_)
  refine al_p (q_move rfl) (al_p (q_assign rfl) (al_end (aq_then ?_)))
  refine ac_ret (aq_thenR (ret1 Tryz.results84 rfl (fun w9 hs => ?_)))
  have := of_decide_eq_true h1; exact ⟨by rw [show max 0 (min n 1000000000000000) = 0 from by omega], hs.below⟩
 ·refine ac_skip (aq_then (ac_seq (ac_seq (ac_region ?_))))
  refine al_p (q_move rfl) (al_p (q_move rfl) (al_p (q_gtr rfl rfl) (al_end (aq_then ?_))))
  refine ac_cond rfl (fun h2 => ?_) (fun h2 => ?_)
  ·refine ac_seq (ac_region ?_)
   refine al_p (q_move rfl) (al_p (q_assign rfl) (al_end (aq_then ?_)))
   refine ac_ret (aq_thenR (ret1 Tryz.results84 rfl (fun w9 hs => ?_)))
   have := of_decide_eq_true h2; exact ⟨by rw [show max 0 (min n 1000000000000000) = 1000000000000000 from by omega], hs.below⟩
  ·refine ac_skip (aq_then (ac_seq (ac_region ?_)))
   refine al_p (q_move rfl) (al_p (q_assign rfl) (al_end (aq_then ?_)))
   refine ac_ret (ret1 Tryz.results84 rfl (fun w9 hs => ?_))
   have := of_decide_eq_false h1; have := of_decide_eq_false h2; exact ⟨by rw [show max 0 (min n 1000000000000000) = n from by omega], hs.below⟩
theorem kzd_bl_apiState_0_ (a0 : Value) (ha0 : a0.oneCell' = true) : ∀ w, (Instr.build 35 #[(0, a0)]).run Tryz.prog w = .ok (.agg #[a0, (.slice none 0 0), (.slice none 0 0), (.slice none 0 0), (.slice none 0 0), (.slice none 0 0)]) w := by
 have ea0 : a0.cells = #[a0] := cells_one ha0
 intro w; simp [Instr.build, Instr.fill, cells_agg, Tryz.runUnderlying35, Tryz.zeroValue35, Tryz.sizeOf3, Tryz.sizeOf30, Tryz.sizeOf32, Tryz.sizeOf33, ea0]
theorem kzd_bs_int_0_ : ∀ w, (Instr.buildSlice 30 0 #[]).run Tryz.prog w = .ok (.slice (some ⟨w.heap.size, 0, none⟩) 0 0) (w.alloc (.cells [].toArray 3)) := by
 intro w; (simp [Instr.buildSlice, Instr.fill, cells_agg, newRow, Tryz.runUnderlying30, Tryz.zeroValue3, Tryz.sizeOf3] <;> (rw [(by kernel_rfl : Array.range 0 = #[])]; simp [Value.cells]))
theorem kzd_bs_int_1_0_ (a0 : Value) (ha0 : a0.oneCell' = true) : ∀ w, (Instr.buildSlice 30 1 #[(0, a0)]).run Tryz.prog w = .ok (.slice (some ⟨w.heap.size, 0, none⟩) 1 1) (w.alloc (.cells [a0].toArray 3)) := by
 have ea0 : a0.cells = #[a0] := cells_one ha0
 intro w; (simp [Instr.buildSlice, Instr.fill, cells_agg, newRow, Tryz.runUnderlying30, Tryz.zeroValue3, Tryz.sizeOf3, ea0] <;> (rw [(by kernel_rfl : Array.range 1 = #[0])]; simp [Value.cells]))
theorem kzd_bs_bool_1_0_ (a0 : Value) (ha0 : a0.oneCell' = true) : ∀ w, (Instr.buildSlice 33 1 #[(0, a0)]).run Tryz.prog w = .ok (.slice (some ⟨w.heap.size, 0, none⟩) 1 1) (w.alloc (.cells [a0].toArray 4)) := by
 have ea0 : a0.cells = #[a0] := cells_one ha0
 intro w; (simp [Instr.buildSlice, Instr.fill, cells_agg, newRow, Tryz.runUnderlying33, Tryz.zeroValue4, Tryz.sizeOf4, ea0] <;> (rw [(by kernel_rfl : Array.range 1 = #[0])]; simp [Value.cells]))
set_option maxHeartbeats 4000000 in
set_option maxRecDepth 100000 in
theorem rstep_any (R : MachR) (M : MachD) (RS : StR) (S : StD) (A1 A2 : Option Addr) (l1 c1 l2 c2 : Nat) (ch pl : List Int) (w : World) (hM : IsM w R M) (hS : IsS w RS S) (hF : FitS M S) (i1 : IsT 1 intCells w A1 l1 ch) (i2 : IsT 1 intCells w A2 l2 pl) (hch : validCh M ch 1000000000000000 = true) (hp : FitP M pl) : Calls Tryz.prog 43 #[(.agg (machCells R M)), (RS.v S.tick), (.agg #[.slice A1 l1 c1, .slice A2 l2 c2])] w (fun e w' => ∃ x : StR, e = .returned (x.v (S.tick + 1)) ∧ IsS w' x (stepD M S ch pl) ∧ x.All (fun b => w.heap.size ≤ b) ∧ Below w.heap.size w w') := by
 have hc0 := hF.cur.check
 have n1 := hM.coils.1
 have n2 := hM.shells.1
 have n3 := i1.1
 have n4 := i2.1
 have n5 := (sound_of hc0).coils.1
 have n6 := (sound_of hc0).shells.1
 have n7 := hF.cur.coils.1
 have n8 := hF.cur.shells.1
 have n9 := hF.heat.1
 have n10 := hF.trip
 have m1 := hS.cur.coils.1
 have m2 := hS.cur.shells.1
 have m3 := hS.heat.1
 have m4 := hS.trip.1
 have m5 := hF.tick
 have m6 := cellN_bd hc0
 have m7 := hp.plasma.1
 have m8 : (cellN M : Int) = M.grid.nr * M.grid.nz := by unfold cellN at m6 ⊢; omega
 refine calls_ax (vs := [(.agg (machCells R M)), (RS.v S.tick), (.agg #[.slice A1 l1 c1, .slice A2 l2 c2])]) Tryz.func43 rfl rfl ?_
 refine ac_seq (ac_region ?_)
 refine al_nb (r_box rfl rfl) ?_
 intro b1
 refine al_nb (r_box rfl rfl) ?_
 intro b2
 refine al_nb (r_box rfl rfl) ?_
 intro b3
 refine al_nb (r_alloc Tryz.zeroValue35 rfl) ?_
 intro b4
 refine al_end (aq_then ?_)
 refine ac_seq (ac_region ?_)
 refine al_p (q_loadAll (i := 3) rfl rfl Tryz.isAgg29 Tryz.sizeOf29 rfl) (al_p (q_loadAll (i := 2) rfl rfl Tryz.isAgg35 Tryz.sizeOf35 rfl) ?_)
 refine al_p (q_fieldAddr 0 rfl Tryz.runUnderlying79 rfl Tryz.sizeOf30 de9 rfl) (al_p (q_load (i := 1) rfl rfl rfl Tryz.isAgg30) (al_call Tryz.call82 (.cons rfl (.cons rfl (.cons rfl .nil))) rfl rfl (fun w1 hs1 => ?_)))
 refine (rapplied_any R M RS S A1 l1 c1 ch _ (hM.below hs1.below) (hS.below hs1.below) hF (i1.below hs1.below) hch).mono ?_
 rintro e u1 ⟨A9, c9, rfl, N9, hb_1⟩
 refine ⟨_, rfl, hb_1, ?_⟩
 clear hs1
 refine al_p (q_assign rfl) (al_end (aq_then ?_))
 refine ac_seq (ac_region ?_)
 refine al_p (q_loadAll (i := 3) rfl rfl Tryz.isAgg29 Tryz.sizeOf29 rfl) (al_p (q_loadAll (i := 2) rfl rfl Tryz.isAgg35 Tryz.sizeOf35 rfl) (al_p (q_move rfl) ?_))
 refine al_p (q_fieldAddr 1 rfl Tryz.runUnderlying79 rfl Tryz.sizeOf30 de9 rfl) (al_p (q_load (i := 1) rfl rfl rfl Tryz.isAgg30) (al_call Tryz.call83 (.cons rfl (.cons rfl (.cons rfl (.cons rfl .nil)))) rfl rfl (fun w2 hs2 => ?_)))
 refine (rinduced_any R M RS S A9 A2 R.la c9 l2 c2 (appL M S ch) pl _ (hM.below hs2.below) (hS.below hs2.below) hF (hs2.newT (.head _) N9) (i2.below hs2.below) (appL_valid hF) hp).mono ?_
 rintro e u2 ⟨A8, c8, rfl, N8, hb_2⟩
 refine ⟨_, rfl, hb_2, ?_⟩
 clear hs2
 refine al_p (q_assign rfl) (al_end (aq_then ?_))
 refine ac_seq (ac_region ?_)
 refine al_p (q_fieldAddr 0 rfl Tryz.runUnderlying35 rfl Tryz.sizeOf3 de9 rfl) (al_p (q_load (i := 2) rfl rfl rfl Tryz.isAgg3) ?_)
 refine al_p (q_add rfl rfl om9) (al_p (q_build (.cons rfl .nil) (kzd_bl_apiState_0_ _ rfl)) (al_new (fun b => .pointer (some ⟨b, 0, none⟩)) (r_alloc Tryz.zeroValue35 rfl) rfl rfl rfl ?_))
 intro b5
 refine al_storeAll (i := 0) rfl rfl rfl rfl Tryz.sizeOf35 rfl rfl .k0 rfl (al_end (aq_then ?_))
 refine ac_seq (ac_region ?_)
 refine al_new (fun b => .slice (some ⟨b, 0, none⟩) 0 0) (r_buildSlice .nil (kzd_bs_int_0_)) rfl rfl rfl ?_
 intro b6
 refine al_p (q_fieldAddr 1 rfl Tryz.runUnderlying79 rfl Tryz.sizeOf30 de9 rfl) (al_p (q_load (i := 3) rfl rfl rfl Tryz.isAgg30) ?_)
 refine al_appendS (i := 0) (z := 1) (bytes := 8) (zv := (.int .i64 0)) (xs := []) (sp := []) (vs := (pl.flatMap intCells)) rfl rfl (by simp) (by simp) om9 om9 rfl (Sor.list (enc := intCells) (zs := pl) (fun _ => rfl) (fun _ => rfl) i2.1 (fun w9 hs => i2.below hs.below)) Tryz.underlying30 kr9 rfl om9 de9 rfl rfl (fun b7 c_b7 sp_b7 hc_b7 hk_b7 hl_b7 => ?_)
 refine ⟨_, .k0, ?_⟩
 refine al_p (q_fieldAddr 1 rfl Tryz.runUnderlying35 rfl Tryz.sizeOf32 de9 rfl) ?_
 refine al_p (q_fieldAddr 3 rfl Tryz.runUnderlying32 rfl Tryz.sizeOf30 de9 rfl) (al_store1 (i := 1) rfl rfl rfl rfl Tryz.sizeOf30 .k3 .k1 rfl (al_end (aq_then ?_)))
 refine ac_seq (ac_seq (ac_region ?_))
 refine al_p (q_assign rfl) (al_end (aq_then ?_))
 refine ac_block (ac_loop (β := Nat × Gr × List Value) (fun x1 => x1.1 ≤ R.lb ∧ gok x1.2.1 x1.1 1 x1.2.2 ∧ x1.2.2 = (lst x1.1 (shellN M S ch pl)).map (Value.int .i64)) (fun x1 => [(3, (.pointer (some ⟨b1, 0, none⟩))), (4, (.pointer (some ⟨b2, 0, none⟩))), (6, (.pointer (some ⟨b4, 0, none⟩))), (7, (.slice A9 R.la c9)), (8, (.slice A8 R.lb c8)), (9, (.pointer (some ⟨b5, 0, none⟩))), (10, (.int .i64 (x1.1 : Int)))]) (fun _ => _) (fun x1 => (b7, _) :: (b5, .cells [.int .i64 (S.tick + 1), .slice none 0 0, .slice (gA x1.2.1) x1.1 (gC x1.2.1), .slice (some ⟨b7, 0, none⟩) (0 + l2) c_b7, .slice none 0 0, .slice none 0 0]) :: (b4, _) :: (b3, _) :: (b2, _) :: (b1, _) :: (gt x1.2.1 x1.2.2 ++ ([]))) (fun x1 => R.lb - x1.1) (0, none, []) ⟨by simp, gok.none 1, rfl⟩ ⟨rfl, rfl, rfl, rfl, rfl, rfl, rfl, trivial⟩ (fun w9 hs => hs) (fun x1 hF1 => ?_))
 obtain ⟨hld, hgd, hcd⟩ := hF1
 refine ac_seq (ac_seq (ac_region ?_))
 refine al_p (q_move rfl) (al_p (q_move rfl) (al_p (q_lenS rfl Tryz.runUnderlying30) (al_p (q_lss rfl rfl) (al_end (aq_then ?_)))))
 refine ac_cond rfl (fun h1 => ?_) (fun h1 => ?_)
 ·have hxl : x1.1 < R.lb := by have := of_decide_eq_true h1; omega
  obtain ⟨b21, o21, hA2, hlt2, hget2⟩ := hM.shells.2 om9
  have hx2 := sA_get (M := M) (k := x1.1) om9
  obtain ⟨b41, o41, hA4, hlt4, hget4⟩ := hS.cur.shells.2 om9
  have hx4 := iA_get (l := S.C.shells) (k := x1.1) om9
  obtain ⟨b71, o71, hA7, hlt7, hget7⟩ := N8.isT.2 om9
  have hx7 : (indL M (appL M S ch) (diffL pl S.C.plasma))[x1.1]? = some (indA M (appL M S ch) (diffL pl S.C.plasma) x1.1) := lst_get _ om9
  have q1 := (sA_ok hc0 (k := x1.1) om9).loss
  have q2 := hF.cur.shells.2 _ (List.mem_of_getElem? hx4)
  have q3 := lost_in q2 q1
  have q4 := ind_bd hc0 (co := appL M S ch) (ce := diffL pl S.C.plasma) (fun y hy => (List.mem_append.1 hy).elim (fun h => by have := app_all hF y h; omega) (fun h => by have := sub_all hF hp y h; omega)) (i := x1.1) om9
  refine ac_skip (aq_then (ac_seq (ac_block (ac_seq (ac_region ?_)))))
  refine al_p (q_fieldAddr 1 rfl Tryz.runUnderlying35 rfl Tryz.sizeOf32 de9 rfl) ?_
  refine al_p (q_fieldAddr 2 rfl Tryz.runUnderlying32 rfl Tryz.sizeOf30 de9 rfl) (al_p (q_load (i := 4) rfl rfl rfl Tryz.isAgg30) (al_p (q_move rfl) ?_))
  refine al_p (q_indexAddrA (i := x1.1) (o41 + x1.1 * 1 + 0) hA4 rfl rfl rfl om9 Tryz.runUnderlying30 Tryz.sizeOf3 rfl) (al_p (q_loadX rfl Tryz.isAgg3 (fun w9 hs => (hs.below.cell (p := ⟨_, _, none⟩) hlt4).trans ((hget4 x1.1 _ hx4) 0 _ rfl))) (al_p (q_assign rfl) (al_end (aq_then ?_))))
  refine ac_drawH 2 23 (.s (.s (.s (.s (.s (.s .z)))))) rfl kr9 kr9 ?_
  refine ah_t 0 (fun w9 hs => ((hs.tail 2 rfl).front (.s4 .z))) rfl rfl kr9 (q_fieldAddr 1 rfl Tryz.runUnderlying35 rfl Tryz.sizeOf32 de9 rfl) ?_
  refine ah_t 1 (fun w9 hs => ((hs.tail 2 rfl).front (.s4 .z))) rfl rfl kr9 (q_fieldAddr 2 rfl Tryz.runUnderlying32 rfl Tryz.sizeOf30 de9 rfl) (ah_t 3 (fun w9 hs => ((hs.tail 2 rfl).front (.s4 .z))) rfl rfl kr9 (q_move rfl) (ah_t 4 (fun w9 hs => ((hs.tail 2 rfl).front (.s4 .z))) rfl rfl kr9 (q_move rfl) ?_))
  refine ah_t 5 (fun w9 hs => ((hs.tail 2 rfl).front (.s4 .z))) rfl rfl kr9 (q_fieldAddr 2 rfl Tryz.runUnderlying29 rfl Tryz.sizeOf23 de9 rfl) (ah_t 6 (fun w9 hs => ((hs.tail 2 rfl).front (.s4 .z))) rfl rfl kr9 (q_load (i := 3) rfl rfl rfl Tryz.isAgg23) (ah_t 7 (fun w9 hs => ((hs.tail 2 rfl).front (.s4 .z))) rfl rfl kr9 (q_move rfl) ?_))
  refine ah_t 8 (fun w9 hs => ((hs.tail 2 rfl).front (.s4 .z))) rfl rfl kr9 (q_indexAddrA (i := x1.1) (o21 + x1.1 * 4 + 0) hA2 rfl rfl rfl om9 Tryz.runUnderlying23 Tryz.sizeOf142 rfl) ?_
  refine ah_t 9 (fun w9 hs => ((hs.tail 2 rfl).front (.s4 .z))) rfl rfl kr9 (q_fieldAddr (o21 + x1.1 * 4 + 3) rfl Tryz.runUnderlying142 rfl Tryz.sizeOf3 de9 rfl) (ah_t 10 (fun w9 hs => ((hs.tail 2 rfl).front (.s4 .z))) rfl rfl kr9 (q_loadX rfl Tryz.isAgg3 (fun w9 hs => (hs.below.cell (p := ⟨_, _, none⟩) hlt2).trans ((hget2 x1.1 _ hx2) 3 _ rfl))) (ah_t 13 (fun w9 hs => ((hs.tail 2 rfl).front (.s4 .z))) rfl rfl kr9 (q_move rfl) (ah_t 14 (fun w9 hs => ((hs.tail 2 rfl).front (.s4 .z))) rfl rfl kr9 (q_move rfl) ?_)))
  refine ah_t 15 (fun w9 hs => ((hs.tail 2 rfl).front (.s4 .z))) rfl rfl kr9 (q_indexAddrA (i := x1.1) (o71 + x1.1 * 1 + 0) hA7 rfl rfl rfl om9 Tryz.runUnderlying30 Tryz.sizeOf3 rfl) (ah_t 16 (fun w9 hs => ((hs.tail 2 rfl).front (.s4 .z))) rfl rfl kr9 (q_loadX rfl Tryz.isAgg3 (fun w9 hs => (hs.cellOf (.head _) (N8.new _ _ hA7) hlt7 (hget7 x1.1 _ hx7 0 _ rfl)))) ?_)
  refine ah_two 2 11 rfl rfl  kr9 (fun hok1 hcl1 => ?_) (fun hok1 hcl1 => ?_)
  ·refine al_p (q_load (i := 1) rfl rfl rfl Tryz.isAgg30) (al_end (ah_back hok1 hcl1 (fun w9 hs => ((hs.tail 2 rfl).front (.s4 .z))) ?_))
   refine ah_one 11 rfl kr9 (fun hok2 hcl2 => ?_)
   refine al_call Tryz.call85 (.cons rfl (.cons rfl .nil)) rfl rfl (fun w3 hs3 => ?_)
   refine (rlost3_any (iA S.C.shells x1.1) (sA M x1.1).loss _ om9 om9).mono ?_
   rintro e u3 ⟨rfl, hb_3⟩
   refine ⟨_, rfl, hb_3, ?_⟩
   clear hs3
   refine al_end (ah_back hok2 hcl2 (fun w9 hs => (((hs.fewer 1 rfl).tail 2 rfl).front (.s4 .z))) ?_)
   refine ah_t 12 (fun w9 hs => (((hs.fewer 1 rfl).tail 2 rfl).front (.s4 .z))) rfl rfl kr9 (q_sub rfl rfl om9) ?_
   refine ah_t 17 (fun w9 hs => (((hs.fewer 1 rfl).tail 2 rfl).front (.s4 .z))) rfl rfl kr9 (q_sub rfl rfl om9) (ah_one 18 rfl kr9 (fun hok3 hcl3 => ?_))
   refine al_call Tryz.call84 (.cons rfl (.cons rfl (.cons rfl .nil))) rfl rfl (fun w4 hs4 => ?_)
   refine (rcutM_any ((iA S.C.shells x1.1) - lostI (iA S.C.shells x1.1) (sA M x1.1).loss - (indA M (appL M S ch) (diffL pl S.C.plasma) x1.1)) 1000000 _ om9).mono ?_
   rintro e u4 ⟨rfl, hb_4⟩
   refine ⟨_, rfl, hb_4, ?_⟩
   clear hs4
   refine al_end (ah_back hok3 hcl3 (fun w9 hs => (((hs.fewer 2 rfl).tail 2 rfl).front (.s4 .z))) ?_)
   refine ah_one 19 rfl kr9 (fun hok4 hcl4 => ?_)
   refine al_new (fun b => .slice (some ⟨b, 0, none⟩) 1 1) (r_buildSlice (.cons rfl .nil) (kzd_bs_int_1_0_ _ rfl)) rfl rfl rfl ?_
   intro b8
   refine al_end (ah_back hok4 hcl4 (fun w9 hs => (((hs.fewer 2 rfl).tail 3 rfl).front (.s4 .z))) ?_)
   refine ah_one 20 rfl kr9 (fun hok5 hcl5 => ?_)
   refine al_grow (z := 1) (bytes := 8) (zv := (.int .i64 0)) (o := x1.2.1) (cs := x1.2.2) (vs := [.int .i64 (cutI ((iA S.C.shells x1.1) - lostI (iA S.C.shells x1.1) (sA M x1.1).loss - (indA M (appL M S ch) (diffL pl S.C.plasma) x1.1)) 1000000)]) rfl rfl (.s7 .z) hgd (Sor.box (j := 0) rfl rfl rfl) Tryz.underlying30 kr9 rfl om9 de9 rfl rfl (fun o_1 g_1 => ?_)
   refine ⟨_, (.s7 .z), ?_⟩
   refine al_end (ah_back hok5 hcl5 (fun w9 hs => (((hs.fewer 2 rfl).tail 3 rfl).front (.s4 .z))) ?_)
   refine ah_t 21 (fun w9 hs => (((hs.fewer 2 rfl).tail 3 rfl).front (.s4 .z))) rfl rfl kr9 (q_fieldAddr 1 rfl Tryz.runUnderlying35 rfl Tryz.sizeOf32 de9 rfl) ?_
   refine ah_t 22 (fun w9 hs => (((hs.fewer 2 rfl).tail 3 rfl).front (.s4 .z))) rfl rfl kr9 (q_fieldAddr 2 rfl Tryz.runUnderlying32 rfl Tryz.sizeOf30 de9 rfl) (ah_one 23 rfl kr9 (fun hok6 hcl6 => ?_))
   refine al_store1 (i := 2) rfl rfl rfl rfl Tryz.sizeOf30 .k2 .k2 rfl (al_end (ah_last kr9 ?_))
   refine aq_inN (aq_then (ac_region (al_p (q_move rfl) ?_)))
   refine al_p (q_add rfl rfl om9) (al_p (q_assign rfl) (al_end (aq_then ?_)))
   skip
   refine aq_round ((x1.1 + 1, o_1, (x1.2.2 ++ [.int .i64 (cutI ((iA S.C.shells x1.1) - lostI (iA S.C.shells x1.1) (sA M x1.1).loss - (indA M (appL M S ch) (diffL pl S.C.plasma) x1.1)) 1000000)]))) (by simp only; omega) ⟨by simp only; omega, g_1, by simp only; rw [hcd, lst_snoc, List.map_append]; rfl⟩ ⟨rfl, rfl, rfl, rfl, rfl, rfl, rfl, trivial⟩ (fun w9 hs => ((hs.fewer 2 rfl).tail 1 rfl))
  ·refine al_call Tryz.call85 (.cons rfl (.cons rfl .nil)) rfl rfl (fun w5 hs5 => ?_)
   refine (rlost3_any (iA S.C.shells x1.1) (sA M x1.1).loss _ om9 om9).mono ?_
   rintro e u5 ⟨rfl, hb_5⟩
   refine ⟨_, rfl, hb_5, ?_⟩
   clear hs5
   refine al_end (ah_back hok1 hcl1 (fun w9 hs => (((hs.fewer 1 rfl).tail 2 rfl).front (.s4 .z))) ?_)
   refine ah_t 12 (fun w9 hs => (((hs.fewer 1 rfl).tail 2 rfl).front (.s4 .z))) rfl rfl kr9 (q_sub rfl rfl om9) ?_
   refine ah_t 17 (fun w9 hs => (((hs.fewer 1 rfl).tail 2 rfl).front (.s4 .z))) rfl rfl kr9 (q_sub rfl rfl om9) ?_
   refine ah_two 2 18 rfl rfl  kr9 (fun hok7 hcl7 => ?_) (fun hok7 hcl7 => ?_)
   ·refine al_p (q_load (i := 1) rfl rfl rfl Tryz.isAgg30) (al_end (ah_back hok7 hcl7 (fun w9 hs => (((hs.fewer 1 rfl).tail 2 rfl).front (.s4 .z))) ?_))
    refine ah_one 18 rfl kr9 (fun hok8 hcl8 => ?_)
    refine al_call Tryz.call84 (.cons rfl (.cons rfl (.cons rfl .nil))) rfl rfl (fun w6 hs6 => ?_)
    refine (rcutM_any ((iA S.C.shells x1.1) - lostI (iA S.C.shells x1.1) (sA M x1.1).loss - (indA M (appL M S ch) (diffL pl S.C.plasma) x1.1)) 1000000 _ om9).mono ?_
    rintro e u6 ⟨rfl, hb_6⟩
    refine ⟨_, rfl, hb_6, ?_⟩
    clear hs6
    refine al_end (ah_back hok8 hcl8 (fun w9 hs => (((hs.fewer 2 rfl).tail 2 rfl).front (.s4 .z))) ?_)
    refine ah_one 19 rfl kr9 (fun hok9 hcl9 => ?_)
    refine al_new (fun b => .slice (some ⟨b, 0, none⟩) 1 1) (r_buildSlice (.cons rfl .nil) (kzd_bs_int_1_0_ _ rfl)) rfl rfl rfl ?_
    intro b9
    refine al_end (ah_back hok9 hcl9 (fun w9 hs => (((hs.fewer 2 rfl).tail 3 rfl).front (.s4 .z))) ?_)
    refine ah_one 20 rfl kr9 (fun hok10 hcl10 => ?_)
    refine al_grow (z := 1) (bytes := 8) (zv := (.int .i64 0)) (o := x1.2.1) (cs := x1.2.2) (vs := [.int .i64 (cutI ((iA S.C.shells x1.1) - lostI (iA S.C.shells x1.1) (sA M x1.1).loss - (indA M (appL M S ch) (diffL pl S.C.plasma) x1.1)) 1000000)]) rfl rfl (.s7 .z) hgd (Sor.box (j := 0) rfl rfl rfl) Tryz.underlying30 kr9 rfl om9 de9 rfl rfl (fun o_2 g_2 => ?_)
    refine ⟨_, (.s7 .z), ?_⟩
    refine al_end (ah_back hok10 hcl10 (fun w9 hs => (((hs.fewer 2 rfl).tail 3 rfl).front (.s4 .z))) ?_)
    refine ah_t 21 (fun w9 hs => (((hs.fewer 2 rfl).tail 3 rfl).front (.s4 .z))) rfl rfl kr9 (q_fieldAddr 1 rfl Tryz.runUnderlying35 rfl Tryz.sizeOf32 de9 rfl) ?_
    refine ah_t 22 (fun w9 hs => (((hs.fewer 2 rfl).tail 3 rfl).front (.s4 .z))) rfl rfl kr9 (q_fieldAddr 2 rfl Tryz.runUnderlying32 rfl Tryz.sizeOf30 de9 rfl) (ah_one 23 rfl kr9 (fun hok11 hcl11 => ?_))
    refine al_store1 (i := 2) rfl rfl rfl rfl Tryz.sizeOf30 .k2 .k2 rfl (al_end (ah_last kr9 ?_))
    refine aq_inN (aq_then (ac_region (al_p (q_move rfl) ?_)))
    refine al_p (q_add rfl rfl om9) (al_p (q_assign rfl) (al_end (aq_then ?_)))
    skip
    refine aq_round ((x1.1 + 1, o_2, (x1.2.2 ++ [.int .i64 (cutI ((iA S.C.shells x1.1) - lostI (iA S.C.shells x1.1) (sA M x1.1).loss - (indA M (appL M S ch) (diffL pl S.C.plasma) x1.1)) 1000000)]))) (by simp only; omega) ⟨by simp only; omega, g_2, by simp only; rw [hcd, lst_snoc, List.map_append]; rfl⟩ ⟨rfl, rfl, rfl, rfl, rfl, rfl, rfl, trivial⟩ (fun w9 hs => ((hs.fewer 2 rfl).tail 1 rfl))
   ·refine al_call Tryz.call84 (.cons rfl (.cons rfl (.cons rfl .nil))) rfl rfl (fun w7 hs7 => ?_)
    refine (rcutM_any ((iA S.C.shells x1.1) - lostI (iA S.C.shells x1.1) (sA M x1.1).loss - (indA M (appL M S ch) (diffL pl S.C.plasma) x1.1)) 1000000 _ om9).mono ?_
    rintro e u7 ⟨rfl, hb_7⟩
    refine ⟨_, rfl, hb_7, ?_⟩
    clear hs7
    refine al_end (ah_back hok7 hcl7 (fun w9 hs => (((hs.fewer 2 rfl).tail 2 rfl).front (.s4 .z))) ?_)
    refine ah_two 2 19 rfl rfl  kr9 (fun hok12 hcl12 => ?_) (fun hok12 hcl12 => ?_)
    ·refine al_p (q_load (i := 1) rfl rfl rfl Tryz.isAgg30) (al_end (ah_back hok12 hcl12 (fun w9 hs => (((hs.fewer 2 rfl).tail 2 rfl).front (.s4 .z))) ?_))
     refine ah_one 19 rfl kr9 (fun hok13 hcl13 => ?_)
     refine al_new (fun b => .slice (some ⟨b, 0, none⟩) 1 1) (r_buildSlice (.cons rfl .nil) (kzd_bs_int_1_0_ _ rfl)) rfl rfl rfl ?_
     intro b10
     refine al_end (ah_back hok13 hcl13 (fun w9 hs => (((hs.fewer 2 rfl).tail 3 rfl).front (.s4 .z))) ?_)
     refine ah_one 20 rfl kr9 (fun hok14 hcl14 => ?_)
     refine al_grow (z := 1) (bytes := 8) (zv := (.int .i64 0)) (o := x1.2.1) (cs := x1.2.2) (vs := [.int .i64 (cutI ((iA S.C.shells x1.1) - lostI (iA S.C.shells x1.1) (sA M x1.1).loss - (indA M (appL M S ch) (diffL pl S.C.plasma) x1.1)) 1000000)]) rfl rfl (.s7 .z) hgd (Sor.box (j := 0) rfl rfl rfl) Tryz.underlying30 kr9 rfl om9 de9 rfl rfl (fun o_3 g_3 => ?_)
     refine ⟨_, (.s7 .z), ?_⟩
     refine al_end (ah_back hok14 hcl14 (fun w9 hs => (((hs.fewer 2 rfl).tail 3 rfl).front (.s4 .z))) ?_)
     refine ah_t 21 (fun w9 hs => (((hs.fewer 2 rfl).tail 3 rfl).front (.s4 .z))) rfl rfl kr9 (q_fieldAddr 1 rfl Tryz.runUnderlying35 rfl Tryz.sizeOf32 de9 rfl) ?_
     refine ah_t 22 (fun w9 hs => (((hs.fewer 2 rfl).tail 3 rfl).front (.s4 .z))) rfl rfl kr9 (q_fieldAddr 2 rfl Tryz.runUnderlying32 rfl Tryz.sizeOf30 de9 rfl) (ah_one 23 rfl kr9 (fun hok15 hcl15 => ?_))
     refine al_store1 (i := 2) rfl rfl rfl rfl Tryz.sizeOf30 .k2 .k2 rfl (al_end (ah_last kr9 ?_))
     refine aq_inN (aq_then (aq_keepL [3, 4, 6, 7, 8, 9, 10, 11, 38, 39, 40, 41, 44, 45, 46, 47, 48, 49, 50, 51, 52, 53, 54, 55, 56, 57, 58, 59, 60, 61, 62, 63, 64, 65, 66, 67, 68, 69, 70, 71, 72] (.cons rfl (.cons rfl (.cons rfl (.cons rfl (.cons rfl (.cons rfl (.cons rfl (.cons rfl (.cons rfl (.cons rfl (.cons rfl (.cons rfl (.cons rfl (.cons rfl (.cons rfl (.cons rfl (.cons rfl (.cons rfl (.cons rfl (.cons rfl (.cons rfl (.cons rfl (.cons rfl (.cons rfl (.cons rfl (.cons rfl (.cons rfl (.cons rfl (.cons rfl (.cons rfl (.cons rfl (.cons rfl (.cons rfl (.cons rfl (.cons rfl (.cons rfl (.cons rfl (.cons rfl (.cons rfl (.cons rfl (.cons rfl .nil))))))))))))))))))))))))))))))))))))))))) ?_))
     refine ac_region (al_p (q_move rfl) ?_)
     refine al_p (q_add rfl rfl om9) (al_p (q_assign rfl) (al_end (aq_then ?_)))
     skip
     refine aq_round ((x1.1 + 1, o_3, (x1.2.2 ++ [.int .i64 (cutI ((iA S.C.shells x1.1) - lostI (iA S.C.shells x1.1) (sA M x1.1).loss - (indA M (appL M S ch) (diffL pl S.C.plasma) x1.1)) 1000000)]))) (by simp only; omega) ⟨by simp only; omega, g_3, by simp only; rw [hcd, lst_snoc, List.map_append]; rfl⟩ ⟨rfl, rfl, rfl, rfl, rfl, rfl, rfl, trivial⟩ (fun w9 hs => ((hs.fewer 2 rfl).tail 1 rfl))
    ·refine al_new (fun b => .slice (some ⟨b, 0, none⟩) 1 1) (r_buildSlice (.cons rfl .nil) (kzd_bs_int_1_0_ _ rfl)) rfl rfl rfl ?_
     intro b11
     refine al_end (ah_back hok12 hcl12 (fun w9 hs => (((hs.fewer 2 rfl).tail 3 rfl).front (.s4 .z))) ?_)
     refine ah_one 2 rfl kr9 (fun hok16 hcl16 => ?_)
     refine al_p (q_load (i := 2) rfl rfl rfl Tryz.isAgg30) (al_end (ah_back hok16 hcl16 (fun w9 hs => (((hs.fewer 2 rfl).tail 3 rfl).front (.s4 .z))) ?_))
     refine ah_one 20 rfl kr9 (fun hok17 hcl17 => ?_)
     refine al_grow (z := 1) (bytes := 8) (zv := (.int .i64 0)) (o := x1.2.1) (cs := x1.2.2) (vs := [.int .i64 (cutI ((iA S.C.shells x1.1) - lostI (iA S.C.shells x1.1) (sA M x1.1).loss - (indA M (appL M S ch) (diffL pl S.C.plasma) x1.1)) 1000000)]) rfl rfl (.s7 .z) hgd (Sor.box (j := 0) rfl rfl rfl) Tryz.underlying30 kr9 rfl om9 de9 rfl rfl (fun o_4 g_4 => ?_)
     refine ⟨_, (.s7 .z), ?_⟩
     refine al_end (ah_back hok17 hcl17 (fun w9 hs => (((hs.fewer 2 rfl).tail 3 rfl).front (.s4 .z))) ?_)
     refine ah_t 21 (fun w9 hs => (((hs.fewer 2 rfl).tail 3 rfl).front (.s4 .z))) rfl rfl kr9 (q_fieldAddr 1 rfl Tryz.runUnderlying35 rfl Tryz.sizeOf32 de9 rfl) ?_
     refine ah_t 22 (fun w9 hs => (((hs.fewer 2 rfl).tail 3 rfl).front (.s4 .z))) rfl rfl kr9 (q_fieldAddr 2 rfl Tryz.runUnderlying32 rfl Tryz.sizeOf30 de9 rfl) (ah_one 23 rfl kr9 (fun hok18 hcl18 => ?_))
     refine al_store1 (i := 2) rfl rfl rfl rfl Tryz.sizeOf30 .k2 .k2 rfl (al_end (ah_last kr9 ?_))
     refine aq_inN (aq_then (ac_region (al_p (q_move rfl) ?_)))
     refine al_p (q_add rfl rfl om9) (al_p (q_assign rfl) (al_end (aq_then ?_)))
     skip
     refine aq_round ((x1.1 + 1, o_4, (x1.2.2 ++ [.int .i64 (cutI ((iA S.C.shells x1.1) - lostI (iA S.C.shells x1.1) (sA M x1.1).loss - (indA M (appL M S ch) (diffL pl S.C.plasma) x1.1)) 1000000)]))) (by simp only; omega) ⟨by simp only; omega, g_4, by simp only; rw [hcd, lst_snoc, List.map_append]; rfl⟩ ⟨rfl, rfl, rfl, rfl, rfl, rfl, rfl, trivial⟩ (fun w9 hs => ((hs.fewer 2 rfl).tail 1 rfl))
 ·have hx1e : x1.1 = R.lb := by have := of_decide_eq_false h1; omega
  refine ac_exit (aq_thenE (aq_thenE (aq_hit (aq_then ?_))))
  refine ac_seq (ac_seq (ac_region ?_))
  refine al_p (q_assign rfl) (al_end (aq_then ?_))
  refine ac_block (ac_loop (β := Nat × (Gr × List Value) × (Gr × List Value) × (Gr × List Value)) (fun x2 => x2.1 ≤ R.la ∧ gok x2.2.1.1 x2.1 1 x2.2.1.2 ∧ x2.2.1.2 = (lst x2.1 (coilN M S ch)).map (Value.int .i64) ∧ gok x2.2.2.1.1 x2.1 1 x2.2.2.1.2 ∧ x2.2.2.1.2 = (lst x2.1 (heatN M S ch)).map (Value.int .i64) ∧ gok x2.2.2.2.1 x2.1 1 x2.2.2.2.2 ∧ x2.2.2.2.2 = (lst x2.1 (tripN M S ch)).map Value.bool) (fun x2 => [(3, (.pointer (some ⟨b1, 0, none⟩))), (4, (.pointer (some ⟨b2, 0, none⟩))), (6, (.pointer (some ⟨b4, 0, none⟩))), (7, (.slice A9 R.la c9)), (9, (.pointer (some ⟨b5, 0, none⟩))), (12, (.int .i64 (x2.1 : Int)))]) (fun _ => _) (fun x2 => (b7, _) :: (b5, .cells [.int .i64 (S.tick + 1), .slice (gA x2.2.1.1) x2.1 (gC x2.2.1.1), .slice (gA x1.2.1) x1.1 (gC x1.2.1), .slice (some ⟨b7, 0, none⟩) (0 + l2) c_b7, .slice (gA x2.2.2.1.1) x2.1 (gC x2.2.2.1.1), .slice (gA x2.2.2.2.1) x2.1 (gC x2.2.2.2.1)]) :: (b4, _) :: (b3, _) :: (b2, _) :: (b1, _) :: (gt x2.2.1.1 x2.2.1.2 ++ (gt x2.2.2.1.1 x2.2.2.1.2 ++ (gt x2.2.2.2.1 x2.2.2.2.2 ++ (gt x1.2.1 x1.2.2 ++ ([])))))) (fun x2 => R.la - x2.1) (0, (none, []), (none, []), (none, [])) ⟨by simp, gok.none 1, rfl, gok.none 1, rfl, gok.none 1, rfl⟩ ⟨rfl, rfl, rfl, rfl, rfl, rfl, trivial⟩ (fun w9 hs => hs) (fun x2 hF2 => ?_))
  obtain ⟨hlk, hga, hca, hgb, hcb, hgc, hcc⟩ := hF2
  refine ac_seq (ac_seq (ac_region ?_))
  refine al_p (q_move rfl) (al_p (q_move rfl) (al_p (q_lenS rfl Tryz.runUnderlying30) (al_p (q_lss rfl rfl) (al_end (aq_then ?_)))))
  refine ac_cond rfl (fun h2 => ?_) (fun h2 => ?_)
  ·have hkl : x2.1 < R.la := by have := of_decide_eq_true h2; omega
   obtain ⟨b11, o11, hA1, hlt1, hget1⟩ := hM.coils.2 om9
   have hx1 := cA_get (M := M) (k := x2.1) om9
   obtain ⟨b31, o31, hA3, hlt3, hget3⟩ := hS.cur.coils.2 om9
   have hx3 := iA_get (l := S.C.coils) (k := x2.1) om9
   obtain ⟨b51, o51, hA5, hlt5, hget5⟩ := hS.heat.2 om9
   have hx5 := iA_get (l := S.heat) (k := x2.1) om9
   obtain ⟨b81, o81, hA8, hlt8, hget8⟩ := hS.trip.2 om9
   have hx8 := bA_get (l := S.trip) (k := x2.1) om9
   obtain ⟨b61, o61, hA6, hlt6, hget6⟩ := N9.isT.2 om9
   have hx6 : (appL M S ch)[x2.1]? = some (appA M S ch x2.1) := lst_get _ om9
   have hco := cA_ok hc0 (k := x2.1) om9
   have q1 := hco.heat
   have q2 := hco.cool
   have q3 := hF.cur.coils.2 _ (List.mem_of_getElem? hx3)
   have q4 : -1000000 ≤ (iA S.C.coils x2.1 + appA M S ch x2.1) ∧ (iA S.C.coils x2.1 + appA M S ch x2.1) ≤ 1000000 := new_bd hco (ch := iA ch x2.1) (t := bA S.trip x2.1) q3
   have q5 := sq6_bd q4
   have q6 := hF.heat.2 _ (List.mem_of_getElem? hx5)
   have q7 := appI_bd hco (iA S.C.coils x2.1) (iA ch x2.1) (bA S.trip x2.1)
   have q8 := hco.step
   have q9 : -1000000 ≤ (appA M S ch x2.1) ∧ (appA M S ch x2.1) ≤ 1000000 := by unfold appA; omega
   have q10 : 0 ≤ ((iA S.C.coils x2.1 + appA M S ch x2.1) * (iA S.C.coils x2.1 + appA M S ch x2.1)).tdiv 1000 ∧ ((iA S.C.coils x2.1 + appA M S ch x2.1) * (iA S.C.coils x2.1 + appA M S ch x2.1)).tdiv 1000 ≤ 1000000000000 := by rw [Int.tdiv_eq_ediv_of_nonneg q5.1]; omega
   have q11 : 0 ≤ (cA M x2.1).heat.tdiv 2 ∧ (cA M x2.1).heat.tdiv 2 ≤ (cA M x2.1).heat := by rw [Int.tdiv_eq_ediv_of_nonneg om9]; omega
   have hH : heatN M S ch x2.1 = max 0 (min (iA S.heat x2.1 + ((iA S.C.coils x2.1 + appA M S ch x2.1) * (iA S.C.coils x2.1 + appA M S ch x2.1)).tdiv 1000 - (cA M x2.1).cool) 1000000000000000) := rfl
   have hN : coilN M S ch x2.1 = (iA S.C.coils x2.1 + appA M S ch x2.1) := rfl
   refine ac_skip (aq_then (ac_seq (ac_block (ac_seq (ac_region ?_)))))
   refine al_p (q_fieldAddr 1 rfl Tryz.runUnderlying29 rfl Tryz.sizeOf22 de9 rfl) (al_p (q_load (i := 5) rfl rfl rfl Tryz.isAgg22) (al_p (q_move rfl) ?_))
   refine al_p (q_indexAddrA (i := x2.1) (o11 + x2.1 * 8 + 0) hA1 rfl rfl rfl om9 Tryz.runUnderlying22 Tryz.sizeOf51 rfl) (al_p (q_loadXs (CoilD.cells (cA M x2.1)) rfl Tryz.isAgg51 Tryz.sizeOf51 (fun w9 hs j9 v9 h9 => by rw [addr_add]; exact (hs.below.cell (p := ⟨_, _, none⟩) hlt1).trans ((hget1 x2.1 _ hx1) j9 v9 h9)) rfl) (al_new (fun b => .pointer (some ⟨b, 0, none⟩)) (r_alloc Tryz.zeroValue51 rfl) rfl rfl rfl ?_))
   intro b12
   refine al_storeAll (i := 0) rfl rfl rfl rfl Tryz.sizeOf51 rfl rfl .k0 rfl (al_end (aq_then ?_))
   refine ac_seq (ac_drawF 11 (.s (.s (.s (.s (.s (.s (.s .z))))))) kr9 kr9 ?_)
   refine ah_t 0 (fun w9 hs => (hs.front (.s7 .z))) rfl rfl kr9 (q_fieldAddr 1 rfl Tryz.runUnderlying35 rfl Tryz.sizeOf32 de9 rfl) ?_
   refine ah_t 1 (fun w9 hs => (hs.front (.s7 .z))) rfl rfl kr9 (q_fieldAddr 1 rfl Tryz.runUnderlying32 rfl Tryz.sizeOf30 de9 rfl) (ah_t 2 (fun w9 hs => (hs.front (.s7 .z))) rfl rfl kr9 (q_load (i := 5) rfl rfl rfl Tryz.isAgg30) (ah_t 3 (fun w9 hs => (hs.front (.s7 .z))) rfl rfl kr9 (q_move rfl) ?_))
   refine ah_t 4 (fun w9 hs => (hs.front (.s7 .z))) rfl rfl kr9 (q_indexAddrA (i := x2.1) (o31 + x2.1 * 1 + 0) hA3 rfl rfl rfl om9 Tryz.runUnderlying30 Tryz.sizeOf3 rfl) (ah_t 5 (fun w9 hs => (hs.front (.s7 .z))) rfl rfl kr9 (q_loadX rfl Tryz.isAgg3 (fun w9 hs => (hs.below.cell (p := ⟨_, _, none⟩) hlt3).trans ((hget3 x2.1 _ hx3) 0 _ rfl))) (ah_t 6 (fun w9 hs => (hs.front (.s7 .z))) rfl rfl kr9 (q_move rfl) (ah_t 7 (fun w9 hs => (hs.front (.s7 .z))) rfl rfl kr9 (q_move rfl) ?_)))
   refine ah_t 8 (fun w9 hs => (hs.front (.s7 .z))) rfl rfl kr9 (q_indexAddrA (i := x2.1) (o61 + x2.1 * 1 + 0) hA6 rfl rfl rfl om9 Tryz.runUnderlying30 Tryz.sizeOf3 rfl) (ah_t 9 (fun w9 hs => (hs.front (.s7 .z))) rfl rfl kr9 (q_loadX rfl Tryz.isAgg3 (fun w9 hs => (hs.cellOf (.tail _ (.head _)) (N9.new _ _ hA6) hlt6 (hget6 x2.1 _ hx6 0 _ rfl)))) ?_)
   refine ah_t 10 (fun w9 hs => (hs.front (.s7 .z))) rfl rfl kr9 (q_add rfl rfl om9) (ah_one 11 rfl kr9 (fun hok19 hcl19 => ?_))
   refine al_p (q_assign rfl) (al_end (ah_last kr9 ?_))
   refine aq_then (ac_seq (ac_drawF 14 (.s (.s (.s (.s (.s (.s (.s .z))))))) kr9 kr9 ?_))
   refine ah_t 0 (fun w9 hs => (hs.front (.s7 .z))) rfl rfl kr9 (q_fieldAddr 4 rfl Tryz.runUnderlying35 rfl Tryz.sizeOf30 de9 rfl) (ah_t 1 (fun w9 hs => (hs.front (.s7 .z))) rfl rfl kr9 (q_load (i := 5) rfl rfl rfl Tryz.isAgg30) (ah_t 2 (fun w9 hs => (hs.front (.s7 .z))) rfl rfl kr9 (q_move rfl) ?_))
   refine ah_t 3 (fun w9 hs => (hs.front (.s7 .z))) rfl rfl kr9 (q_indexAddrA (i := x2.1) (o51 + x2.1 * 1 + 0) hA5 rfl rfl rfl om9 Tryz.runUnderlying30 Tryz.sizeOf3 rfl) (ah_t 4 (fun w9 hs => (hs.front (.s7 .z))) rfl rfl kr9 (q_loadX rfl Tryz.isAgg3 (fun w9 hs => (hs.below.cell (p := ⟨_, _, none⟩) hlt5).trans ((hget5 x2.1 _ hx5) 0 _ rfl))) (ah_t 5 (fun w9 hs => (hs.front (.s7 .z))) rfl rfl kr9 (q_move rfl) (ah_t 6 (fun w9 hs => (hs.front (.s7 .z))) rfl rfl kr9 (q_move rfl) ?_)))
   refine ah_t 7 (fun w9 hs => (hs.front (.s7 .z))) rfl rfl kr9 (q_mul rfl rfl om9) ?_
   refine ah_t 8 (fun w9 hs => (hs.front (.s7 .z))) rfl rfl kr9 (q_quo rfl rfl om9) ?_
   refine ah_t 9 (fun w9 hs => (hs.front (.s7 .z))) rfl rfl kr9 (q_add rfl rfl om9) ?_
   refine ah_t 10 (fun w9 hs => (hs.front (.s7 .z))) rfl rfl kr9 (q_fieldAddr 7 rfl Tryz.runUnderlying51 rfl Tryz.sizeOf3 de9 rfl) (ah_t 11 (fun w9 hs => (hs.front (.s7 .z))) rfl rfl kr9 (q_load (i := 0) rfl rfl rfl Tryz.isAgg3) ?_)
   refine ah_t 12 (fun w9 hs => (hs.front (.s7 .z))) rfl rfl kr9 (q_sub rfl rfl om9) (ah_one 13 rfl kr9 (fun hok20 hcl20 => ?_))
   refine al_call Tryz.call84 (.cons rfl (.cons rfl (.cons rfl .nil))) rfl rfl (fun w8 hs8 => ?_)
   refine (rcutH_any (iA S.heat x2.1 + ((iA S.C.coils x2.1 + appA M S ch x2.1) * (iA S.C.coils x2.1 + appA M S ch x2.1)).tdiv 1000 - (cA M x2.1).cool) _).mono ?_
   rintro e u8 ⟨rfl, hb_8⟩
   refine ⟨_, rfl, hb_8, ?_⟩
   clear hs8
   refine al_end (ah_back hok20 hcl20 (fun w9 hs => ((hs.fewer 1 rfl).front (.s7 .z))) ?_)
   refine ah_one 14 rfl kr9 (fun hok21 hcl21 => ?_)
   refine al_p (q_assign rfl) (al_end (ah_last kr9 ?_))
   refine aq_then ?_
   refine ac_cutU (β := Bool) (fun v9 => v9 = (bA S.trip x2.1 || decide (max 0 (min (iA S.heat x2.1 + ((iA S.C.coils x2.1 + appA M S ch x2.1) * (iA S.C.coils x2.1 + appA M S ch x2.1)).tdiv 1000 - (cA M x2.1).cool) 1000000000000000) > (cA M x2.1).heat))) (fun v9 => [(3, (.pointer (some ⟨b1, 0, none⟩))), (4, (.pointer (some ⟨b2, 0, none⟩))), (6, (.pointer (some ⟨b4, 0, none⟩))), (7, (.slice A9 R.la c9)), (9, (.pointer (some ⟨b5, 0, none⟩))), (12, (.int .i64 (x2.1 : Int))), (13, (.pointer (some ⟨b12, 0, none⟩))), (14, (.int .i64 (iA S.C.coils x2.1 + appA M S ch x2.1))), (15, (.int .i64 (max 0 (min (iA S.heat x2.1 + ((iA S.C.coils x2.1 + appA M S ch x2.1) * (iA S.C.coils x2.1 + appA M S ch x2.1)).tdiv 1000 - (cA M x2.1).cool) 1000000000000000)))), (16, (.bool v9))]) (fun v9 L9 => L9) (fun X9 hX9 => ?_) (fun v9 hF9 => ?_)
   ·refine ac_region ?_
    refine al_p (q_fieldAddr 5 rfl Tryz.runUnderlying35 rfl Tryz.sizeOf33 de9 rfl) (al_p (q_load (i := 5) rfl rfl rfl Tryz.isAgg33) (al_p (q_move rfl) ?_))
    refine al_p (q_indexAddrA (i := x2.1) (o81 + x2.1 * 1 + 0) hA8 rfl rfl rfl om9 Tryz.runUnderlying33 Tryz.sizeOf4 rfl) (al_p (q_loadX rfl Tryz.isAgg4 (fun w9 hs => (hs.below.cell (p := ⟨_, _, none⟩) hlt8).trans ((hget8 x2.1 _ hx8) 0 _ rfl))) (al_p (q_move rfl) ?_))
    refine aq_split 114 rfl (fun hb1 => ?_) (fun hb1 => ?_)
    ·have gt : bA S.trip x2.1 = true := hb1
     refine al_skip rfl rfl rfl (al_skip rfl rfl rfl (al_skip rfl rfl rfl (al_skip rfl rfl rfl (al_p (q_pickT rfl rfl) ?_))))
     refine al_p (q_assign rfl) (al_end (aq_then ?_))
     exact aq_sub (hX9 (true) ((by rw [gt]; rfl))) ⟨rfl, rfl, rfl, rfl, rfl, rfl, rfl, rfl, rfl, rfl, trivial⟩ (fun w9 hs => hs)
    ·have gt : bA S.trip x2.1 = false := hb1
     refine al_p (q_move rfl) ?_
     refine al_p (q_fieldAddr 6 rfl Tryz.runUnderlying51 rfl Tryz.sizeOf3 de9 rfl) (al_p (q_load (i := 0) rfl rfl rfl Tryz.isAgg3) (al_p (q_gtr rfl rfl) (al_p (q_pickF rfl rfl) (al_p (q_assign rfl) ?_))))
     refine al_end (aq_then ?_)
     exact aq_sub (hX9 ((decide (max 0 (min (iA S.heat x2.1 + ((iA S.C.coils x2.1 + appA M S ch x2.1) * (iA S.C.coils x2.1 + appA M S ch x2.1)).tdiv 1000 - (cA M x2.1).cool) 1000000000000000) > (cA M x2.1).heat))) ((by rw [gt]; rfl))) ⟨rfl, rfl, rfl, rfl, rfl, rfl, rfl, rfl, rfl, rfl, trivial⟩ (fun w9 hs => hs)
   ·have hv9 := hF9
    refine ac_cutU (β := Bool) (fun v8 => v8 = tripN M S ch x2.1) (fun v8 => [(3, (.pointer (some ⟨b1, 0, none⟩))), (4, (.pointer (some ⟨b2, 0, none⟩))), (6, (.pointer (some ⟨b4, 0, none⟩))), (7, (.slice A9 R.la c9)), (9, (.pointer (some ⟨b5, 0, none⟩))), (12, (.int .i64 (x2.1 : Int))), (14, (.int .i64 (iA S.C.coils x2.1 + appA M S ch x2.1))), (15, (.int .i64 (max 0 (min (iA S.heat x2.1 + ((iA S.C.coils x2.1 + appA M S ch x2.1) * (iA S.C.coils x2.1 + appA M S ch x2.1)).tdiv 1000 - (cA M x2.1).cool) 1000000000000000)))), (16, (.bool v8))]) (fun v8 L9 => L9) (fun X9 hX9 => ?_) (fun v8 hF9 => ?_)
    ·refine ac_seq (ac_region ?_)
     refine al_p (q_move rfl) (al_p (q_eql rfl rfl) (al_p (q_move rfl) ?_))
     refine aq_split 122 rfl (fun hb2 => ?_) (fun hb2 => ?_)
     ·have gn : (iA S.C.coils x2.1 + appA M S ch x2.1) = 0 := by simpa using hb2
      refine al_p (q_move rfl) ?_
      refine al_p (q_fieldAddr 6 rfl Tryz.runUnderlying51 rfl Tryz.sizeOf3 de9 rfl) (al_p (q_load (i := 0) rfl rfl rfl Tryz.isAgg3) ?_)
      refine al_p (q_quo rfl rfl om9) (al_p (q_leq rfl rfl) (al_p (q_pickT rfl rfl) (al_end (aq_then ?_))))
      refine aq_keepL [3, 4, 6, 7, 9, 12, 13, 14, 15, 16, 120, 121, 122, 123, 124, 125, 126, 127, 128] (.cons rfl (.cons rfl (.cons rfl (.cons rfl (.cons rfl (.cons rfl (.cons rfl (.cons rfl (.cons rfl (.cons rfl (.cons rfl (.cons rfl (.cons rfl (.cons rfl (.cons rfl (.cons rfl (.cons rfl (.cons rfl (.cons rfl .nil))))))))))))))))))) ?_
      refine ac_cond rfl (fun h3 => ?_) (fun h3 => ?_)
      ·have g128 := of_decide_eq_true h3
       refine ac_region (al_p (q_assign rfl) (al_end (aq_then ?_)))
       exact aq_sub (hX9 (false) ((by show _ = tripI (cA M x2.1) (iA S.C.coils x2.1 + appA M S ch x2.1) (max 0 (min (iA S.heat x2.1 + ((iA S.C.coils x2.1 + appA M S ch x2.1) * (iA S.C.coils x2.1 + appA M S ch x2.1)).tdiv 1000 - (cA M x2.1).cool) 1000000000000000)) (bA S.trip x2.1); first | exact (trip_off gn g128 om9).symm | (rw [hv9]; exact trip_or (fun h => gn h.1)) | (rw [hv9]; exact trip_or (fun h => g128 h.2))))) ⟨rfl, rfl, rfl, rfl, rfl, rfl, rfl, rfl, rfl, trivial⟩ (fun w9 hs => hs)
      ·have g128 := of_decide_eq_false h3
       refine ac_skip (aq_then ?_)
       exact aq_sub (hX9 (v9) ((by show _ = tripI (cA M x2.1) (iA S.C.coils x2.1 + appA M S ch x2.1) (max 0 (min (iA S.heat x2.1 + ((iA S.C.coils x2.1 + appA M S ch x2.1) * (iA S.C.coils x2.1 + appA M S ch x2.1)).tdiv 1000 - (cA M x2.1).cool) 1000000000000000)) (bA S.trip x2.1); first | exact (trip_off gn g128 om9).symm | (rw [hv9]; exact trip_or (fun h => gn h.1)) | (rw [hv9]; exact trip_or (fun h => g128 h.2))))) ⟨rfl, rfl, rfl, rfl, rfl, rfl, rfl, rfl, rfl, trivial⟩ (fun w9 hs => hs)
     ·have gn : ¬ ((iA S.C.coils x2.1 + appA M S ch x2.1) = 0) := by simpa using hb2
      refine al_skip rfl rfl rfl (al_skip rfl rfl rfl (al_skip rfl rfl rfl (al_skip rfl rfl rfl (al_skip rfl rfl rfl ?_))))
      refine al_p (q_pickF rfl rfl) (al_end (aq_then ?_))
      refine ac_condF rfl (ac_skip (aq_then ?_))
      exact aq_sub (hX9 (v9) ((by show _ = tripI (cA M x2.1) (iA S.C.coils x2.1 + appA M S ch x2.1) (max 0 (min (iA S.heat x2.1 + ((iA S.C.coils x2.1 + appA M S ch x2.1) * (iA S.C.coils x2.1 + appA M S ch x2.1)).tdiv 1000 - (cA M x2.1).cool) 1000000000000000)) (bA S.trip x2.1); first | exact (trip_off gn g128 om9).symm | (rw [hv9]; exact trip_or (fun h => gn h.1)) | (rw [hv9]; exact trip_or (fun h => g128 h.2))))) ⟨rfl, rfl, rfl, rfl, rfl, rfl, rfl, rfl, rfl, trivial⟩ (fun w9 hs => hs)
    ·have hv8 := hF9
     refine ac_seq (ac_region ?_)
     refine al_p (q_fieldAddr 1 rfl Tryz.runUnderlying35 rfl Tryz.sizeOf32 de9 rfl) ?_
     refine al_p (q_fieldAddr 1 rfl Tryz.runUnderlying32 rfl Tryz.sizeOf30 de9 rfl) (al_p (q_load (i := 2) rfl rfl rfl Tryz.isAgg30) (al_p (q_move rfl) (al_new (fun b => .slice (some ⟨b, 0, none⟩) 1 1) (r_buildSlice (.cons rfl .nil) (kzd_bs_int_1_0_ _ rfl)) rfl rfl rfl ?_)))
     intro b13
     refine al_grow (z := 1) (bytes := 8) (zv := (.int .i64 0)) (o := x2.2.1.1) (cs := x2.2.1.2) (vs := [.int .i64 (iA S.C.coils x2.1 + appA M S ch x2.1)]) rfl rfl (.s8 .z) hga (Sor.box (j := 0) rfl rfl rfl) Tryz.underlying30 kr9 rfl om9 de9 rfl rfl (fun o_5 g_5 => ?_)
     refine ⟨_, (.s8 .z), ?_⟩
     refine al_p (q_fieldAddr 1 rfl Tryz.runUnderlying35 rfl Tryz.sizeOf32 de9 rfl) ?_
     refine al_p (q_fieldAddr 1 rfl Tryz.runUnderlying32 rfl Tryz.sizeOf30 de9 rfl) (al_store1 (i := 3) rfl rfl rfl rfl Tryz.sizeOf30 .k1 .k3 rfl (al_end (aq_then ?_)))
     refine ac_seq (aq_rotT (.s8 .z) (.s8 .z) ?_)
     refine ac_region ?_
     refine al_p (q_fieldAddr 4 rfl Tryz.runUnderlying35 rfl Tryz.sizeOf30 de9 rfl) (al_p (q_load (i := 3) rfl rfl rfl Tryz.isAgg30) (al_p (q_move rfl) (al_new (fun b => .slice (some ⟨b, 0, none⟩) 1 1) (r_buildSlice (.cons rfl .nil) (kzd_bs_int_1_0_ _ rfl)) rfl rfl rfl ?_)))
     intro b14
     refine al_grow (z := 1) (bytes := 8) (zv := (.int .i64 0)) (o := x2.2.2.1.1) (cs := x2.2.2.1.2) (vs := [.int .i64 (max 0 (min (iA S.heat x2.1 + ((iA S.C.coils x2.1 + appA M S ch x2.1) * (iA S.C.coils x2.1 + appA M S ch x2.1)).tdiv 1000 - (cA M x2.1).cool) 1000000000000000))]) rfl rfl (.s9 .z) hgb (Sor.box (j := 0) rfl rfl rfl) Tryz.underlying30 kr9 rfl om9 de9 rfl rfl (fun o_6 g_6 => ?_)
     refine ⟨_, (.s9 .z), ?_⟩
     refine al_p (q_fieldAddr 4 rfl Tryz.runUnderlying35 rfl Tryz.sizeOf30 de9 rfl) (al_store1 (i := 4) rfl rfl rfl rfl Tryz.sizeOf30 .k4 .k4 rfl (al_end (aq_then ?_)))
     refine aq_rotT (.s9 .z) (.s9 .z) ?_
     refine ac_region ?_
     refine al_p (q_fieldAddr 5 rfl Tryz.runUnderlying35 rfl Tryz.sizeOf33 de9 rfl) (al_p (q_load (i := 4) rfl rfl rfl Tryz.isAgg33) (al_p (q_move rfl) (al_new (fun b => .slice (some ⟨b, 0, none⟩) 1 1) (r_buildSlice (.cons rfl .nil) (kzd_bs_bool_1_0_ _ rfl)) rfl rfl rfl ?_)))
     intro b15
     refine al_grow (z := 1) (bytes := 1) (zv := (.bool false)) (o := x2.2.2.2.1) (cs := x2.2.2.2.2) (vs := [.bool v8]) rfl rfl (.s10 .z) hgc (Sor.box (j := 0) rfl rfl rfl) Tryz.underlying33 kr9 rfl om9 de9 rfl rfl (fun o_7 g_7 => ?_)
     refine ⟨_, (.s10 .z), ?_⟩
     refine al_p (q_fieldAddr 5 rfl Tryz.runUnderlying35 rfl Tryz.sizeOf33 de9 rfl) (al_store1 (i := 5) rfl rfl rfl rfl Tryz.sizeOf33 .k5 .k5 rfl (al_end (aq_inN (aq_then ?_))))
     refine ac_region (al_p (q_move rfl) ?_)
     refine al_p (q_add rfl rfl om9) (al_p (q_assign rfl) (al_end (aq_then ?_)))
     refine aq_rotT (.s10 .z) (.s10 .z) ?_
     skip
     refine aq_round ((x2.1 + 1, (o_5, (x2.2.1.2 ++ [.int .i64 (iA S.C.coils x2.1 + appA M S ch x2.1)])), (o_6, (x2.2.2.1.2 ++ [.int .i64 (max 0 (min (iA S.heat x2.1 + ((iA S.C.coils x2.1 + appA M S ch x2.1) * (iA S.C.coils x2.1 + appA M S ch x2.1)).tdiv 1000 - (cA M x2.1).cool) 1000000000000000))])), (o_7, (x2.2.2.2.2 ++ [.bool v8])))) (by simp only; omega) ⟨by simp only; omega, g_5, by simp only; rw [hca, lst_snoc, List.map_append]; rfl, g_6, by simp only; rw [hcb, lst_snoc, List.map_append]; rfl, g_7, by simp only; rw [hcc, lst_snoc, List.map_append, ← hv8]; rfl⟩ ⟨rfl, rfl, rfl, rfl, rfl, rfl, trivial⟩ (fun w9 hs => ((hs.fewer 1 rfl).tail 4 rfl))
  ·have hx2e : x2.1 = R.la := by have := of_decide_eq_false h2; omega
   refine ac_exit (aq_thenE (aq_thenE (aq_hit (aq_then ?_))))
   refine ac_seq (ac_region ?_)
   refine al_p (q_loadAll (i := 1) rfl rfl Tryz.isAgg35 Tryz.sizeOf35 rfl) (al_storeAll (i := 2) rfl rfl rfl rfl Tryz.sizeOf35 rfl rfl .k2 rfl (al_end (aq_then ?_)))
   refine ac_ret (retR Tryz.results43 (.agg (i := 2) rfl rfl Tryz.isAgg35 Tryz.sizeOf35 rfl .nil) .one (fun w9 hs => ?_))
   have NA : NewT 1 intCells w.heap.size w9 (gA x2.2.1.1) x2.1 (gC x2.2.1.1) (lst M.coils.length (coilN M S ch)) := hs.grown (enc := intCells) (o := x2.2.1.1) (cs := x2.2.1.2) (zs := lst M.coils.length (coilN M S ch)) (fun _ => rfl) (fun y hy => by simp [hy]) hga (by rw [hca, n1, ← hx2e, flat_int]) (by rw [lst_length]; omega)
   have NB : NewT 1 intCells w.heap.size w9 (gA x2.2.2.1.1) x2.1 (gC x2.2.2.1.1) (lst M.coils.length (heatN M S ch)) := hs.grown (enc := intCells) (o := x2.2.2.1.1) (cs := x2.2.2.1.2) (zs := lst M.coils.length (heatN M S ch)) (fun _ => rfl) (fun y hy => by simp [hy]) hgb (by rw [hcb, n1, ← hx2e, flat_int]) (by rw [lst_length]; omega)
   have NC : NewT 1 boolCells w.heap.size w9 (gA x2.2.2.2.1) x2.1 (gC x2.2.2.2.1) (lst M.coils.length (tripN M S ch)) := hs.grown (enc := boolCells) (o := x2.2.2.2.1) (cs := x2.2.2.2.2) (zs := lst M.coils.length (tripN M S ch)) (fun _ => rfl) (fun y hy => by simp [hy]) hgc (by rw [hcc, n1, ← hx2e, flat_bool]) (by rw [lst_length]; omega)
   have ND : NewT 1 intCells w.heap.size w9 (gA x1.2.1) x1.1 (gC x1.2.1) (lst M.shells.length (shellN M S ch pl)) := hs.grown (enc := intCells) (o := x1.2.1) (cs := x1.2.2) (zs := lst M.shells.length (shellN M S ch pl)) (fun _ => rfl) (fun y hy => by simp [hy]) hgd (by rw [hcd, n2, ← hx1e, flat_int]) (by rw [lst_length]; omega)
   have NP : NewT 1 intCells w.heap.size w9 (some ⟨b7, 0, none⟩) (0 + l2) c_b7 pl := ⟨isT_box (n := 1) (enc := intCells) (zs := pl) (fun _ => rfl) (hs.at 0 rfl) (by simp) om9, fun b off e => hs.new 0 rfl b off e, by omega, hk_b7⟩
   exact ⟨⟨⟨gA x2.2.1.1, gA x1.2.1, some ⟨b7, 0, none⟩, x2.1, gC x2.2.1.1, x1.1, gC x1.2.1, 0 + l2, c_b7⟩, gA x2.2.2.1.1, gA x2.2.2.2.1, x2.1, gC x2.2.2.1.1, x2.1, gC x2.2.2.2.1⟩, rfl, ⟨⟨NA.isT, ND.isT, NP.isT, NA.le.1, ND.le.1, NP.le.1, NA.le.2, ND.le.2, NP.le.2, by simp only; omega, by simp only; omega, by simp only; omega⟩, NB.isT, NC.isT, NB.le.1, NC.le.1, NB.le.2, NC.le.2, by simp only; omega, by simp only; omega⟩, ⟨NA.new, ND.new, NP.new, NB.new, NC.new⟩, hs.below⟩
end
end Go.Proofs.YthggkidiidnaoaaGreat
