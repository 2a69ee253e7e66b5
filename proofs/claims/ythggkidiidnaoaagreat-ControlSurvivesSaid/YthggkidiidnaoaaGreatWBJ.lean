import Derived.Test.YthggkidiidnaoaaGreatWAA
import Derived.Test.YthggkidiidnaoaaGreatWAV
import Derived.Test.YthggkidiidnaoaaGreatWAZ
import Derived.Test.YthggkidiidnaoaaGreatWBH
import Derived.Test.YthggkidiidnaoaaGreatWBI
import Derived.Test.YthggkidiidnaoaaGreatRows
import Derived.KernelRfl
import Derived.Laws.StructEq
namespace Go.Proofs.YthggkidiidnaoaaGreat
set_option linter.unusedVariables false
set_option linter.unusedSimpArgs false
section
open Go.RowKit
theorem iA_eq (l : List Int) (k : Nat) : iA l k = l[k]?.getD 0 := by simp [iA, List.getD_eq_getElem?_getD]
theorem iA_app {co ce : List Int} (k : Nat) : iA (co ++ ce) (co.length + k) = iA ce k := by
 rw [iA_eq, iA_eq, List.getElem?_append_right om9, Nat.add_sub_cancel_left]
theorem iA_left {co ce : List Int} {k : Nat} (h : k < co.length) : iA (co ++ ce) k = iA co k := by
 rw [iA_eq, iA_eq, List.getElem?_append_left h]
end
section
open Go.RowKit
set_option maxRecDepth 100000 in
theorem rcutM_any (n m : Int) (w : World) (hm : 0 ≤ m) : Calls Tryz.prog 84 #[(.int .i64 n), (.int .i64 (-m)), (.int .i64 m)] w (Ret (.int .i64 (cutI n m)) w) := by
 refine calls_ax (vs := [(.int .i64 n), (.int .i64 (-m)), (.int .i64 m)]) Tryz.func84 rfl rfl ?_
 refine ac_seq (ac_region ?_)
 refine al_p (q_assign rfl) (al_end (aq_then ?_))
 refine ac_seq (ac_seq (ac_region ?_))
 refine al_p (q_move rfl) (al_p (q_move rfl) (al_p (q_lss rfl rfl) (al_end (aq_then ?_))))
 refine ac_cond rfl (fun h1 => ?_) (fun h1 => ?_)
 ·refine ac_seq (ac_region ?_)
  refine al_p (q_move rfl) (al_p (q_assign rfl) (al_end (aq_then ?_)))
  refine ac_ret (aq_thenR (ret1 Tryz.results84 rfl (fun w9 hs => ?_)))
  have := of_decide_eq_true h1; exact ⟨by rw [show cutI n m = -m from by unfold cutI; omega], hs.below⟩
 ·refine ac_skip (aq_then (ac_seq (ac_seq (ac_region ?_))))
  refine al_p (q_move rfl) (al_p (q_move rfl) (al_p (q_gtr rfl rfl) (al_end (aq_then ?_))))
  refine ac_cond rfl (fun h2 => ?_) (fun h2 => ?_)
  ·refine ac_seq (ac_region ?_)
   refine al_p (q_move rfl) (al_p (q_assign rfl) (al_end (aq_then ?_)))
   refine ac_ret (aq_thenR (ret1 Tryz.results84 rfl (fun w9 hs => ?_)))
   have := of_decide_eq_true h2; exact ⟨by rw [show cutI n m = m from by unfold cutI; omega], hs.below⟩
  ·refine ac_skip (aq_then (ac_seq (ac_region ?_)))
   refine al_p (q_move rfl) (al_p (q_assign rfl) (al_end (aq_then ?_)))
   refine ac_ret (ret1 Tryz.results84 rfl (fun w9 hs => ?_))
   have := of_decide_eq_false h1; have := of_decide_eq_false h2; exact ⟨by rw [show cutI n m = n from by unfold cutI; omega], hs.below⟩
theorem kzb_bs_int_1_0_ (a0 : Value) (ha0 : a0.oneCell' = true) : ∀ w, (Instr.buildSlice 30 1 #[(0, a0)]).run Tryz.prog w = .ok (.slice (some ⟨w.heap.size, 0, none⟩) 1 1) (w.alloc (.cells [a0].toArray 3)) := by
 have ea0 : a0.cells = #[a0] := cells_one ha0
 intro w; (simp [Instr.buildSlice, Instr.fill, cells_agg, newRow, Tryz.runUnderlying30, Tryz.zeroValue3, Tryz.sizeOf3, ea0] <;> (rw [(by kernel_rfl : Array.range 1 = #[0])]; simp [Value.cells]))
set_option maxRecDepth 100000 in
theorem rapplied_any (R : MachR) (M : MachD) (RS : StR) (S : StD) (A : Option Addr) (len cap : Nat) (ch : List Int) (w : World) (hM : IsM w R M) (hS : IsS w RS S) (hF : FitS M S) (hI : IsT 1 intCells w A len ch) (hc : validCh M ch 1000000000000000 = true) : Calls Tryz.prog 82 #[(.agg (machCells R M)), (RS.v S.tick), (.slice A len cap)] w (fun e w' => ∃ A' c, e = .returned (.slice A' R.la c) ∧ NewT 1 intCells w.heap.size w' A' R.la c (appL M S ch) ∧ Below w.heap.size w w') := by
 have n1 := hM.coils.1
 have n2 := hS.cur.coils.1
 have n3 := hS.trip.1
 have n4 := hI.1
 have hv := validCh_iff.1 hc
 have n5 := (sound_of hF.cur.check).coils.1
 have n6 := hF.cur.coils.1
 have n7 := hF.trip
 refine calls_ax (vs := [(.agg (machCells R M)), (RS.v S.tick), (.slice A len cap)]) Tryz.func82 rfl rfl ?_
 refine ac_seq (ac_region ?_)
 refine al_nb (r_box rfl rfl) ?_
 intro b1
 refine al_nb (r_box rfl rfl) ?_
 intro b2
 refine al_p (q_assign rfl) (al_end (aq_then ?_))
 refine ac_seq (ac_region ?_)
 refine al_p (q_assign rfl) (al_end (aq_then ?_))
 refine ac_seq (ac_seq (ac_region ?_))
 refine al_p (q_assign rfl) (al_end (aq_then ?_))
 refine ac_block (ac_loop (β := Nat × Gr × List Value) (fun x => x.1 ≤ R.la ∧ gok x.2.1 x.1 1 x.2.2 ∧ x.2.2 = (lst x.1 (appA M S ch)).map (Value.int .i64)) (fun x => [(2, (.slice A len cap)), (3, (.pointer (some ⟨b1, 0, none⟩))), (4, (.pointer (some ⟨b2, 0, none⟩))), (6, (.slice none 0 0)), (7, (.slice (gA x.2.1) x.1 (gC x.2.1))), (8, (.int .i64 (x.1 : Int)))]) (fun _ => _) (fun x => (b2, _) :: (b1, _) :: (gt x.2.1 x.2.2 ++ ([]))) (fun x => R.la - x.1) (0, none, []) ⟨by simp, gok.none 1, rfl⟩ ⟨rfl, rfl, rfl, rfl, rfl, rfl, trivial⟩ (fun w9 hs => hs) (fun x hF1 => ?_))
 obtain ⟨hla, hgk, hcs⟩ := hF1
 refine ac_seq (ac_seq (ac_region ?_))
 refine al_p (q_move rfl) ?_
 refine al_p (q_fieldAddr 1 rfl Tryz.runUnderlying29 rfl Tryz.sizeOf22 de9 rfl) (al_p (q_load (i := 1) rfl rfl rfl Tryz.isAgg22) (al_p (q_lenS rfl Tryz.runUnderlying22) (al_p (q_lss rfl rfl) (al_end (aq_then ?_)))))
 refine ac_cond rfl (fun h1 => ?_) (fun h1 => ?_)
 ·have hxl : x.1 < R.la := by have := of_decide_eq_true h1; omega
  obtain ⟨b11, o11, hA1, hlt1, hget1⟩ := hM.coils.2 om9
  have hx1 := cA_get (M := M) (k := x.1) om9
  obtain ⟨b21, o21, hA2, hlt2, hget2⟩ := hS.cur.coils.2 om9
  have hx2 := iA_get (l := S.C.coils) (k := x.1) om9
  obtain ⟨b31, o31, hA3, hlt3, hget3⟩ := hS.trip.2 om9
  have hx3 := bA_get (l := S.trip) (k := x.1) om9
  obtain ⟨b41, o41, hA4, hlt4, hget4⟩ := hI.2 om9
  have hx4 := iA_get (l := ch) (k := x.1) om9
  have hco := cA_ok hF.cur.check (k := x.1) om9
  have q1 := hco.step
  have q2 := hco.cur
  have q3 := hF.cur.coils.2 _ (List.mem_of_getElem? hx2)
  have q4 := hv.2 _ (List.mem_of_getElem? hx4)
  have q5 := cutI_bd (n := (iA ch x.1)) (most := (cA M x.1).step) om9
  have q6 := cutI_bd (n := ((iA S.C.coils x.1) + cutI (iA ch x.1) (cA M x.1).step)) (most := (cA M x.1).cur) om9
  refine ac_skip (aq_then (ac_seq (ac_block (ac_seq ?_))))
  refine ac_drawF 13 (.s (.s .z)) kr9 kr9 ?_
  refine ah_t 0 (fun w9 hs => (hs.front (.s2 .z))) rfl rfl kr9 (q_fieldAddr 1 rfl Tryz.runUnderlying29 rfl Tryz.sizeOf22 de9 rfl) (ah_t 1 (fun w9 hs => (hs.front (.s2 .z))) rfl rfl kr9 (q_load (i := 1) rfl rfl rfl Tryz.isAgg22) (ah_t 2 (fun w9 hs => (hs.front (.s2 .z))) rfl rfl kr9 (q_move rfl) ?_))
  refine ah_t 3 (fun w9 hs => (hs.front (.s2 .z))) rfl rfl kr9 (q_indexAddrA (i := x.1) (o11 + x.1 * 8 + 0) hA1 rfl rfl rfl om9 Tryz.runUnderlying22 Tryz.sizeOf51 rfl) (ah_t 4 (fun w9 hs => (hs.front (.s2 .z))) rfl rfl kr9 (q_loadXs (CoilD.cells (cA M x.1)) rfl Tryz.isAgg51 Tryz.sizeOf51 (fun w9 hs j9 v9 h9 => by rw [addr_add]; exact (hs.below.cell (p := ⟨_, _, none⟩) hlt1).trans ((hget1 x.1 _ hx1) j9 v9 h9)) rfl) ?_)
  refine ah_t 5 (fun w9 hs => (hs.front (.s2 .z))) rfl rfl kr9 (q_fieldAddr 1 rfl Tryz.runUnderlying35 rfl Tryz.sizeOf32 de9 rfl) ?_
  refine ah_t 6 (fun w9 hs => (hs.front (.s2 .z))) rfl rfl kr9 (q_fieldAddr 1 rfl Tryz.runUnderlying32 rfl Tryz.sizeOf30 de9 rfl) (ah_t 7 (fun w9 hs => (hs.front (.s2 .z))) rfl rfl kr9 (q_load (i := 0) rfl rfl rfl Tryz.isAgg30) (ah_t 8 (fun w9 hs => (hs.front (.s2 .z))) rfl rfl kr9 (q_move rfl) ?_))
  refine ah_t 9 (fun w9 hs => (hs.front (.s2 .z))) rfl rfl kr9 (q_indexAddrA (i := x.1) (o21 + x.1 * 1 + 0) hA2 rfl rfl rfl om9 Tryz.runUnderlying30 Tryz.sizeOf3 rfl) (ah_t 10 (fun w9 hs => (hs.front (.s2 .z))) rfl rfl kr9 (q_loadX rfl Tryz.isAgg3 (fun w9 hs => (hs.below.cell (p := ⟨_, _, none⟩) hlt2).trans ((hget2 x.1 _ hx2) 0 _ rfl))) (ah_one 11 rfl kr9 (fun hok1 hcl1 => ?_)))
  refine al_nb (r_alloc Tryz.zeroValue51 rfl) ?_
  intro b3
  refine al_end (ah_back hok1 hcl1 (fun w9 hs => ((hs.tail 1 rfl).front (.s2 .z))) ?_)
  refine ah_one 12 rfl kr9 (fun hok2 hcl2 => ?_)
  refine al_storeAll (i := 0) rfl rfl rfl rfl Tryz.sizeOf51 rfl rfl .k0 rfl (al_end (ah_back hok2 hcl2 (fun w9 hs => ((hs.tail 1 rfl).front (.s2 .z))) ?_))
  refine ah_one 13 rfl kr9 (fun hok3 hcl3 => ?_)
  refine al_p (q_assign rfl) (al_end (ah_last kr9 ?_))
  refine aq_then (ac_seq (ac_seq (ac_region ?_)))
  refine al_p (q_fieldAddr 5 rfl Tryz.runUnderlying35 rfl Tryz.sizeOf33 de9 rfl) (al_p (q_load (i := 1) rfl rfl rfl Tryz.isAgg33) (al_p (q_move rfl) ?_))
  refine al_p (q_indexAddrA (i := x.1) (o31 + x.1 * 1 + 0) hA3 rfl rfl rfl om9 Tryz.runUnderlying33 Tryz.sizeOf4 rfl) (al_p (q_loadX rfl Tryz.isAgg4 (fun w9 hs => (hs.below.cell (p := ⟨_, _, none⟩) hlt3).trans ((hget3 x.1 _ hx3) 0 _ rfl))) (al_end (aq_then ?_)))
  refine ac_cond rfl (fun h2 => ?_) (fun h2 => ?_)
  ·have hval : appA M S ch x.1 = cutI (-(iA S.C.coils x.1)) (cA M x.1).step := by simp [appA, appI, show bA S.trip x.1 = true from h2]
   refine ac_seq (ac_region ?_)
   refine al_p (q_move rfl) (al_p (q_move rfl) ?_)
   refine al_p (q_neg rfl om9) ?_
   refine al_p (q_fieldAddr 5 rfl Tryz.runUnderlying51 rfl Tryz.sizeOf3 de9 rfl) (al_p (q_load (i := 0) rfl rfl rfl Tryz.isAgg3) ?_)
   refine al_p (q_neg rfl om9) ?_
   refine al_p (q_fieldAddr 5 rfl Tryz.runUnderlying51 rfl Tryz.sizeOf3 de9 rfl) (al_p (q_load (i := 0) rfl rfl rfl Tryz.isAgg3) (al_call Tryz.call84 (.cons rfl (.cons rfl (.cons rfl .nil))) rfl rfl (fun w1 hs1 => ?_)))
   refine (rcutM_any (-(iA S.C.coils x.1)) (cA M x.1).step _ om9).mono ?_
   rintro e u1 ⟨rfl, hb_1⟩
   refine ⟨_, rfl, hb_1, ?_⟩
   clear hs1
   refine al_new (fun b => .slice (some ⟨b, 0, none⟩) 1 1) (r_buildSlice (.cons rfl .nil) (kzb_bs_int_1_0_ _ rfl)) rfl rfl rfl ?_
   intro b4
   refine al_grow (z := 1) (bytes := 8) (zv := (.int .i64 0)) (o := x.2.1) (cs := x.2.2) (vs := [.int .i64 (cutI (-(iA S.C.coils x.1)) (cA M x.1).step)]) rfl rfl (.s4 .z) hgk (Sor.box (j := 0) rfl rfl rfl) Tryz.underlying30 kr9 rfl om9 de9 rfl rfl (fun o_1 g_1 => ?_)
   refine ⟨_, (.s4 .z), ?_⟩
   refine al_p (q_assign rfl) (al_end (aq_then ?_))
   refine ac_exit (aq_thenE (aq_hit (aq_then (ac_region ?_))))
   refine al_p (q_move rfl) ?_
   refine al_p (q_add rfl rfl om9) (al_p (q_assign rfl) (al_end (aq_then ?_)))
   skip
   refine aq_round ((x.1 + 1, o_1, (x.2.2 ++ [.int .i64 (cutI (-(iA S.C.coils x.1)) (cA M x.1).step)]))) (by simp only; omega) ⟨by simp only; omega, g_1, by simp only; rw [hcs, lst_snoc, List.map_append, hval]; rfl⟩ ⟨rfl, rfl, rfl, rfl, rfl, rfl, trivial⟩ (fun w9 hs => ((hs.fewer 1 rfl).tail 2 rfl))
  ·have hval : appA M S ch x.1 = cutI (cutI ((iA S.C.coils x.1) + cutI (iA ch x.1) (cA M x.1).step) (cA M x.1).cur - (iA S.C.coils x.1)) (cA M x.1).step := by simp [appA, appI, show bA S.trip x.1 = false from h2]
   refine ac_skip (aq_then (ac_seq (ac_drawF 18 (.s (.s (.s .z))) kr9 kr9 ?_)))
   refine ah_t 0 (fun w9 hs => (hs.front (.s3 .z))) rfl rfl kr9 (q_move rfl) (ah_t 1 (fun w9 hs => (hs.front (.s3 .z))) rfl rfl kr9 (q_move rfl) (ah_t 2 (fun w9 hs => (hs.front (.s3 .z))) rfl rfl kr9 (q_move rfl) ?_))
   refine ah_t 3 (fun w9 hs => (hs.front (.s3 .z))) rfl rfl kr9 (q_indexAddrA (i := x.1) (o41 + x.1 * 1 + 0) hA4 rfl rfl rfl om9 Tryz.runUnderlying30 Tryz.sizeOf3 rfl) (ah_t 4 (fun w9 hs => (hs.front (.s3 .z))) rfl rfl kr9 (q_loadX rfl Tryz.isAgg3 (fun w9 hs => (hs.below.cell (p := ⟨_, _, none⟩) hlt4).trans ((hget4 x.1 _ hx4) 0 _ rfl))) ?_)
   refine ah_t 5 (fun w9 hs => (hs.front (.s3 .z))) rfl rfl kr9 (q_fieldAddr 5 rfl Tryz.runUnderlying51 rfl Tryz.sizeOf3 de9 rfl) (ah_t 6 (fun w9 hs => (hs.front (.s3 .z))) rfl rfl kr9 (q_load (i := 0) rfl rfl rfl Tryz.isAgg3) ?_)
   refine ah_t 7 (fun w9 hs => (hs.front (.s3 .z))) rfl rfl kr9 (q_neg rfl om9) ?_
   refine ah_t 8 (fun w9 hs => (hs.front (.s3 .z))) rfl rfl kr9 (q_fieldAddr 5 rfl Tryz.runUnderlying51 rfl Tryz.sizeOf3 de9 rfl) (ah_t 9 (fun w9 hs => (hs.front (.s3 .z))) rfl rfl kr9 (q_load (i := 0) rfl rfl rfl Tryz.isAgg3) ?_)
   refine ah_t 12 (fun w9 hs => (hs.front (.s3 .z))) rfl rfl kr9 (q_fieldAddr 4 rfl Tryz.runUnderlying51 rfl Tryz.sizeOf3 de9 rfl) (ah_t 13 (fun w9 hs => (hs.front (.s3 .z))) rfl rfl kr9 (q_load (i := 0) rfl rfl rfl Tryz.isAgg3) ?_)
   refine ah_t 14 (fun w9 hs => (hs.front (.s3 .z))) rfl rfl kr9 (q_neg rfl om9) ?_
   refine ah_t 15 (fun w9 hs => (hs.front (.s3 .z))) rfl rfl kr9 (q_fieldAddr 4 rfl Tryz.runUnderlying51 rfl Tryz.sizeOf3 de9 rfl) (ah_t 16 (fun w9 hs => (hs.front (.s3 .z))) rfl rfl kr9 (q_load (i := 0) rfl rfl rfl Tryz.isAgg3) (ah_one 10 rfl kr9 (fun hok4 hcl4 => ?_)))
   refine al_call Tryz.call84 (.cons rfl (.cons rfl (.cons rfl .nil))) rfl rfl (fun w2 hs2 => ?_)
   refine (rcutM_any (iA ch x.1) (cA M x.1).step _ om9).mono ?_
   rintro e u2 ⟨rfl, hb_2⟩
   refine ⟨_, rfl, hb_2, ?_⟩
   clear hs2
   refine al_end (ah_back hok4 hcl4 (fun w9 hs => ((hs.fewer 1 rfl).front (.s3 .z))) ?_)
   refine ah_t 11 (fun w9 hs => ((hs.fewer 1 rfl).front (.s3 .z))) rfl rfl kr9 (q_add rfl rfl om9) (ah_one 17 rfl kr9 (fun hok5 hcl5 => ?_))
   refine al_call Tryz.call84 (.cons rfl (.cons rfl (.cons rfl .nil))) rfl rfl (fun w3 hs3 => ?_)
   refine (rcutM_any ((iA S.C.coils x.1) + cutI (iA ch x.1) (cA M x.1).step) (cA M x.1).cur _ om9).mono ?_
   rintro e u3 ⟨rfl, hb_3⟩
   refine ⟨_, rfl, hb_3, ?_⟩
   clear hs3
   refine al_end (ah_back hok5 hcl5 (fun w9 hs => ((hs.fewer 2 rfl).front (.s3 .z))) ?_)
   refine ah_one 18 rfl kr9 (fun hok6 hcl6 => ?_)
   refine al_p (q_assign rfl) (al_end (ah_last kr9 ?_))
   refine aq_then (ac_region (al_p (q_move rfl) (al_p (q_move rfl) (al_p (q_move rfl) ?_))))
   refine al_p (q_sub rfl rfl om9) ?_
   refine al_p (q_fieldAddr 5 rfl Tryz.runUnderlying51 rfl Tryz.sizeOf3 de9 rfl) (al_p (q_load (i := 0) rfl rfl rfl Tryz.isAgg3) ?_)
   refine al_p (q_neg rfl om9) ?_
   refine al_p (q_fieldAddr 5 rfl Tryz.runUnderlying51 rfl Tryz.sizeOf3 de9 rfl) (al_p (q_load (i := 0) rfl rfl rfl Tryz.isAgg3) (al_call Tryz.call84 (.cons rfl (.cons rfl (.cons rfl .nil))) rfl rfl (fun w4 hs4 => ?_)))
   refine (rcutM_any (cutI ((iA S.C.coils x.1) + cutI (iA ch x.1) (cA M x.1).step) (cA M x.1).cur - (iA S.C.coils x.1)) (cA M x.1).step _ om9).mono ?_
   rintro e u4 ⟨rfl, hb_4⟩
   refine ⟨_, rfl, hb_4, ?_⟩
   clear hs4
   refine al_new (fun b => .slice (some ⟨b, 0, none⟩) 1 1) (r_buildSlice (.cons rfl .nil) (kzb_bs_int_1_0_ _ rfl)) rfl rfl rfl ?_
   intro b5
   refine al_grow (z := 1) (bytes := 8) (zv := (.int .i64 0)) (o := x.2.1) (cs := x.2.2) (vs := [.int .i64 (cutI (cutI ((iA S.C.coils x.1) + cutI (iA ch x.1) (cA M x.1).step) (cA M x.1).cur - (iA S.C.coils x.1)) (cA M x.1).step)]) rfl rfl (.s4 .z) hgk (Sor.box (j := 0) rfl rfl rfl) Tryz.underlying30 kr9 rfl om9 de9 rfl rfl (fun o_2 g_2 => ?_)
   refine ⟨_, (.s4 .z), ?_⟩
   refine al_p (q_assign rfl) (al_end (aq_inN (aq_then (aq_keepL [2, 3, 4, 6, 7, 8, 9, 10, 11, 12, 13, 14, 15, 16, 19, 20, 21, 22, 23, 24, 25, 26, 27, 28, 29, 30, 31, 32, 33, 34, 46, 47, 48, 49, 50, 51, 52, 53, 54, 55, 56, 57, 58, 59, 60, 61, 62, 63, 64, 65, 66, 67, 68, 69, 70, 71, 72, 73, 74, 75] (.cons rfl (.cons rfl (.cons rfl (.cons rfl (.cons rfl (.cons rfl (.cons rfl (.cons rfl (.cons rfl (.cons rfl (.cons rfl (.cons rfl (.cons rfl (.cons rfl (.cons rfl (.cons rfl (.cons rfl (.cons rfl (.cons rfl (.cons rfl (.cons rfl (.cons rfl (.cons rfl (.cons rfl (.cons rfl (.cons rfl (.cons rfl (.cons rfl (.cons rfl (.cons rfl (.cons rfl (.cons rfl (.cons rfl (.cons rfl (.cons rfl (.cons rfl (.cons rfl (.cons rfl (.cons rfl (.cons rfl (.cons rfl (.cons rfl (.cons rfl (.cons rfl (.cons rfl (.cons rfl (.cons rfl (.cons rfl (.cons rfl (.cons rfl (.cons rfl (.cons rfl (.cons rfl (.cons rfl (.cons rfl (.cons rfl (.cons rfl (.cons rfl (.cons rfl (.cons rfl .nil)))))))))))))))))))))))))))))))))))))))))))))))))))))))))))) ?_))))
   refine ac_region (al_p (q_move rfl) ?_)
   refine al_p (q_add rfl rfl om9) (al_p (q_assign rfl) (al_end (aq_then ?_)))
   skip
   refine aq_round ((x.1 + 1, o_2, (x.2.2 ++ [.int .i64 (cutI (cutI ((iA S.C.coils x.1) + cutI (iA ch x.1) (cA M x.1).step) (cA M x.1).cur - (iA S.C.coils x.1)) (cA M x.1).step)]))) (by simp only; omega) ⟨by simp only; omega, g_2, by simp only; rw [hcs, lst_snoc, List.map_append, hval]; rfl⟩ ⟨rfl, rfl, rfl, rfl, rfl, rfl, trivial⟩ (fun w9 hs => ((hs.fewer 3 rfl).tail 2 rfl))
 ·have hxe : x.1 = R.la := by have := of_decide_eq_false h1; omega
  refine ac_exit (aq_thenE (aq_thenE (aq_hit (aq_then ?_))))
  refine ac_seq (ac_region ?_)
  refine al_p (q_move rfl) (al_p (q_assign rfl) (al_end (aq_then ?_)))
  refine ac_ret (ret1 Tryz.results82 rfl (fun w9 hs => ?_))
  have hn : x.1 = R.la := hxe
  exact ⟨gA x.2.1, gC x.2.1, by rw [← hn], by rw [← hn]; exact hs.grown (enc := intCells) (o := x.2.1) (cs := x.2.2) (fun _ => rfl) (fun y hy => by simp [hy]) hgk (by rw [hcs, appL, n1, ← hn, flat_int]) (by rw [appL, lst_length]; omega), hs.below⟩
theorem kzb_bl_apiPoint_0_1 (a0 a1 : Value) (ha0 : a0.oneCell' = true) (ha1 : a1.oneCell' = true) : ∀ w, (Instr.build 53 #[(0, a0), (1, a1)]).run Tryz.prog w = .ok (.agg #[a0, a1]) w := by
 have ea0 : a0.cells = #[a0] := cells_one ha0
 have ea1 : a1.cells = #[a1] := cells_one ha1
 intro w; simp [Instr.build, Instr.fill, cells_agg, Tryz.runUnderlying53, Tryz.zeroValue53, Tryz.sizeOf3, ea0, ea1]
set_option maxRecDepth 100000 in
theorem rinduced_any (R : MachR) (M : MachD) (RS : StR) (S : StD) (A1 A2 : Option Addr) (l1 c1 l2 c2 : Nat) (ch pl : List Int) (w : World) (hM : IsM w R M) (hS : IsS w RS S) (hF : FitS M S) (i1 : IsT 1 intCells w A1 l1 ch) (i2 : IsT 1 intCells w A2 l2 pl) (hch : validCh M ch 1000000 = true) (hp : FitP M pl) : Calls Tryz.prog 83 #[(.agg (machCells R M)), (RS.v S.tick), (.slice A1 l1 c1), (.slice A2 l2 c2)] w (fun e w' => ∃ A' c, e = .returned (.slice A' R.lb c) ∧ NewT 1 intCells w.heap.size w' A' R.lb c (indL M ch (diffL pl S.C.plasma)) ∧ Below w.heap.size w w') := by
 have hc0 := hF.cur.check
 have n1 := hM.coils.1
 have n2 := hM.shells.1
 have n3 := i1.1
 have n4 := i2.1
 have n5 := (sound_of hc0).coils.1
 have n6 := (sound_of hc0).shells.1
 have n7 := validCh_iff.1 hch
 have n8 := hp.plasma.1
 have n9 := hF.cur.plasma.1
 have n10 := hS.cur.plasma.1
 have n11 := cellN_bd hc0
 have n12 : (cellN M : Int) = M.grid.nr * M.grid.nz := by unfold cellN at n11 ⊢; omega
 have n13 : (M.grid.nr * M.grid.nz).toNat = cellN M := rfl
 have hsl : (diffL pl S.C.plasma).length = pl.length := lst_length _ _
 have hd1 : ∀ y ∈ ch ++ diffL pl S.C.plasma, -2000000 ≤ y ∧ y ≤ 2000000 := fun y hy => (List.mem_append.1 hy).elim (fun h => by have := n7.2 y h; omega) (fun h => by have := sub_all hF hp y h; omega)
 refine calls_ax (vs := [(.agg (machCells R M)), (RS.v S.tick), (.slice A1 l1 c1), (.slice A2 l2 c2)]) Tryz.func83 rfl rfl ?_
 refine ac_seq (ac_region ?_)
 refine al_nb (r_box rfl rfl) ?_
 intro b1
 refine al_nb (r_box rfl rfl) ?_
 intro b2
 refine al_p (q_assign rfl) (al_end (aq_then ?_))
 refine ac_seq (ac_region ?_)
 refine al_p (q_assign rfl) (al_end (aq_then ?_))
 refine ac_seq (ac_seq (ac_region ?_))
 refine al_p (q_assign rfl) (al_end (aq_then ?_))
 refine ac_block (ac_loop (β := Nat × Gr × List Value) (fun x => x.1 ≤ R.lb ∧ gok x.2.1 x.1 1 x.2.2 ∧ x.2.2 = (lst x.1 (indA M ch (diffL pl S.C.plasma))).map (Value.int .i64)) (fun x => [(2, (.slice A1 l1 c1)), (3, (.slice A2 l2 c2)), (4, (.pointer (some ⟨b1, 0, none⟩))), (5, (.pointer (some ⟨b2, 0, none⟩))), (8, (.slice none 0 0)), (9, (.slice (gA x.2.1) x.1 (gC x.2.1))), (10, (.int .i64 (x.1 : Int)))]) (fun _ => _) (fun x => (b2, _) :: (b1, _) :: (gt x.2.1 x.2.2 ++ ([]))) (fun x => R.lb - x.1) (0, none, []) ⟨by simp, gok.none 1, rfl⟩ ⟨rfl, rfl, rfl, rfl, rfl, rfl, rfl, trivial⟩ (fun w9 hs => hs) (fun x hF1 => ?_))
 obtain ⟨hla, hgk, hcs⟩ := hF1
 refine ac_seq (ac_seq (ac_region ?_))
 refine al_p (q_move rfl) ?_
 refine al_p (q_fieldAddr 2 rfl Tryz.runUnderlying29 rfl Tryz.sizeOf23 de9 rfl) (al_p (q_load (i := 1) rfl rfl rfl Tryz.isAgg23) (al_p (q_lenS rfl Tryz.runUnderlying23) (al_p (q_lss rfl rfl) (al_end (aq_then ?_)))))
 refine ac_cond rfl (fun h1 => ?_) (fun h1 => ?_)
 ·have hxl : x.1 < R.lb := by have := of_decide_eq_true h1; omega
  obtain ⟨b11, o11, hA1, hlt1, hget1⟩ := hM.shells.2 om9
  have hx1 := sA_get (M := M) (k := x.1) om9
  have hsh := (sA_ok hc0 (k := x.1) om9).self
  have htb : ∀ k, k < R.la + l2 → -50000000000000 ≤ (termA M ch (diffL pl S.C.plasma) (sA M x.1)) k ∧ (termA M ch (diffL pl S.C.plasma) (sA M x.1)) k ≤ 50000000000000 := fun k hk => by
   have := mulP_bd (lk_bd hc0 (sA M x.1) k) (hd1 _ (iA_mem (l := ch ++ diffL pl S.C.plasma) (k := k) (by rw [List.length_append, hsl]; omega)))
   unfold termA; omega
  refine ac_skip (aq_then (ac_seq (ac_block (ac_seq ?_))))
  refine ac_drawF 15 (.s (.s .z)) kr9 kr9 ?_
  refine ah_t 0 (fun w9 hs => (hs.front (.s2 .z))) rfl rfl kr9 (q_loadAll (i := 1) rfl rfl Tryz.isAgg29 Tryz.sizeOf29 rfl) ?_
  refine ah_t 1 (fun w9 hs => (hs.front (.s2 .z))) rfl rfl kr9 (q_fieldAddr 2 rfl Tryz.runUnderlying29 rfl Tryz.sizeOf23 de9 rfl) (ah_t 2 (fun w9 hs => (hs.front (.s2 .z))) rfl rfl kr9 (q_load (i := 1) rfl rfl rfl Tryz.isAgg23) (ah_t 3 (fun w9 hs => (hs.front (.s2 .z))) rfl rfl kr9 (q_move rfl) ?_))
  refine ah_t 4 (fun w9 hs => (hs.front (.s2 .z))) rfl rfl kr9 (q_indexAddrA (i := x.1) (o11 + x.1 * 4 + 0) hA1 rfl rfl rfl om9 Tryz.runUnderlying23 Tryz.sizeOf142 rfl) ?_
  refine ah_t 5 (fun w9 hs => (hs.front (.s2 .z))) rfl rfl kr9 (q_fieldAddr (o11 + x.1 * 4 + 0) rfl Tryz.runUnderlying142 rfl Tryz.sizeOf3 de9 rfl) (ah_t 6 (fun w9 hs => (hs.front (.s2 .z))) rfl rfl kr9 (q_loadX rfl Tryz.isAgg3 (fun w9 hs => (hs.below.cell (p := ⟨_, _, none⟩) hlt1).trans ((hget1 x.1 _ hx1) 0 _ rfl))) ?_)
  refine ah_t 7 (fun w9 hs => (hs.front (.s2 .z))) rfl rfl kr9 (q_fieldAddr 2 rfl Tryz.runUnderlying29 rfl Tryz.sizeOf23 de9 rfl) (ah_t 8 (fun w9 hs => (hs.front (.s2 .z))) rfl rfl kr9 (q_load (i := 1) rfl rfl rfl Tryz.isAgg23) (ah_t 9 (fun w9 hs => (hs.front (.s2 .z))) rfl rfl kr9 (q_move rfl) ?_))
  refine ah_t 10 (fun w9 hs => (hs.front (.s2 .z))) rfl rfl kr9 (q_indexAddrA (i := x.1) (o11 + x.1 * 4 + 0) hA1 rfl rfl rfl om9 Tryz.runUnderlying23 Tryz.sizeOf142 rfl) ?_
  refine ah_t 11 (fun w9 hs => (hs.front (.s2 .z))) rfl rfl kr9 (q_fieldAddr (o11 + x.1 * 4 + 1) rfl Tryz.runUnderlying142 rfl Tryz.sizeOf3 de9 rfl) (ah_t 12 (fun w9 hs => (hs.front (.s2 .z))) rfl rfl kr9 (q_loadX rfl Tryz.isAgg3 (fun w9 hs => (hs.below.cell (p := ⟨_, _, none⟩) hlt1).trans ((hget1 x.1 _ hx1) 1 _ rfl))) (ah_t 13 (fun w9 hs => (hs.front (.s2 .z))) rfl rfl kr9 (q_build (.cons rfl (.cons rfl .nil)) (kzb_bl_apiPoint_0_1 _ _ rfl rfl)) (ah_one 14 rfl kr9 (fun hok1 hcl1 => ?_))))
  refine al_call Tryz.call129 (.cons rfl (.cons rfl .nil)) rfl rfl (fun w1 hs1 => ?_)
  refine (rfrom9_any R M (sA M x.1).r (sA M x.1).z _ (hM.below hs1.below) hc0).mono ?_
  rintro e u1 ⟨A9, c9, rfl, N9, hb_1⟩
  have hfl := from_length M ((sA M x.1).r, (sA M x.1).z)
  obtain ⟨b61, o61, hA6, hlt6, hget6⟩ := N9.isT.2 om9
  refine ⟨_, rfl, hb_1, ?_⟩
  clear hs1
  refine al_end (ah_back hok1 hcl1 (fun w9 hs => ((hs.fewer 1 rfl).front (.s2 .z))) ?_)
  refine ah_one 15 rfl kr9 (fun hok2 hcl2 => ?_)
  refine al_p (q_assign rfl) (al_end (ah_last kr9 ?_))
  refine aq_then (ac_seq (ac_region ?_))
  refine al_p (q_assign rfl) (al_end (aq_then ?_))
  refine ac_seq (ac_seq (ac_region ?_))
  refine al_p (q_assign rfl) (al_end (aq_then ?_))
  refine ac_block ?_
  refine ac_loop (β := Nat) (fun y => y ≤ R.la) (fun y => [(2, (.slice A1 l1 c1)), (3, (.slice A2 l2 c2)), (4, (.pointer (some ⟨b1, 0, none⟩))), (5, (.pointer (some ⟨b2, 0, none⟩))), (8, (.slice none 0 0)), (9, (.slice (gA x.2.1) x.1 (gC x.2.1))), (10, (.int .i64 (x.1 : Int))), (11, (.slice A9 (fromL M ((sA M x.1).r, (sA M x.1).z)).length c9)), (12, (.int .i64 (dotTo (termA M ch (diffL pl S.C.plasma) (sA M x.1)) y))), (13, (.int .i64 (y : Int))), (15, (.int .i64 (x.1 : Int))), (16, (.pointer (some ⟨b1, 2, none⟩))), (17, (.slice (R.B) R.lb R.cb)), (18, (.int .i64 (R.lb : Int))), (22, (.agg (machCells R M))), (23, (.pointer (some ⟨b1, 2, none⟩))), (24, (.slice (R.B) R.lb R.cb)), (25, (.int .i64 (x.1 : Int))), (26, (.pointer (some ⟨b11, o11 + x.1 * 4 + 0, none⟩))), (27, (.pointer (some ⟨b11, o11 + x.1 * 4 + 0, none⟩))), (29, (.pointer (some ⟨b1, 2, none⟩))), (30, (.slice (R.B) R.lb R.cb)), (31, (.int .i64 (x.1 : Int))), (32, (.pointer (some ⟨b11, o11 + x.1 * 4 + 0, none⟩))), (33, (.pointer (some ⟨b11, o11 + x.1 * 4 + 1, none⟩))), (36, (.slice A9 (fromL M ((sA M x.1).r, (sA M x.1).z)).length c9))]) (fun _ => _) (fun y => (b2, _) :: (b1, _) :: (gt x.2.1 x.2.2 ++ ([]))) (fun y => R.la - y) 0 om9 ⟨rfl, rfl, rfl, rfl, rfl, rfl, rfl, rfl, rfl, rfl, rfl, rfl, rfl, rfl, rfl, rfl, rfl, rfl, rfl, rfl, rfl, rfl, rfl, rfl, rfl, rfl, trivial⟩ (fun w9 hs => hs) (fun y hF2 => ?_)
  refine ac_seq (ac_seq (ac_region ?_))
  refine al_p (q_move rfl) ?_
  refine al_p (q_fieldAddr 1 rfl Tryz.runUnderlying29 rfl Tryz.sizeOf22 de9 rfl) (al_p (q_load (i := 1) rfl rfl rfl Tryz.isAgg22) (al_p (q_lenS rfl Tryz.runUnderlying22) (al_p (q_lss rfl rfl) (al_end (aq_then ?_)))))
  refine ac_cond rfl (fun h2 => ?_) (fun h2 => ?_)
  ·have hyl : y < R.la := by have := of_decide_eq_true h2; omega
   obtain ⟨b31, o31, hA3, hlt3, hget3⟩ := i1.2 om9
   have hx3 := iA_get (l := ch) (k := y) om9
   have hx6 : (fromL M ((sA M x.1).r, (sA M x.1).z))[y]? = some (lkA M (sA M x.1) y) := by unfold lkA; rw [if_pos om9]; exact from_coil (cA_get (M := M) (k := y) om9)
   have e1 := htb y om9
   have e2 := dotTo_bd (f := (termA M ch (diffL pl S.C.plasma) (sA M x.1))) (B := 50000000000000) y (fun k hk => htb k om9)
   have e3 : (termA M ch (diffL pl S.C.plasma) (sA M x.1)) y = lkA M (sA M x.1) y * iA ch y := by unfold termA; rw [iA_left om9]
   rw [e3] at e1
   have hval2 : dotTo (termA M ch (diffL pl S.C.plasma) (sA M x.1)) y + lkA M (sA M x.1) y * iA ch y = dotTo (termA M ch (diffL pl S.C.plasma) (sA M x.1)) (y + 1) := by simp only [dotTo]; rw [e3]
   refine ac_skip (aq_then (ac_seq (ac_block (ac_drawF 11 (.s (.s .z)) kr9 kr9 ?_))))
   refine ah_t 0 (fun w9 hs => (hs.front (.s2 .z))) rfl rfl kr9 (q_move rfl) (ah_t 1 (fun w9 hs => (hs.front (.s2 .z))) rfl rfl kr9 (q_move rfl) (ah_t 2 (fun w9 hs => (hs.front (.s2 .z))) rfl rfl kr9 (q_move rfl) ?_))
   refine ah_t 3 (fun w9 hs => (hs.front (.s2 .z))) rfl rfl kr9 (q_indexAddrA (i := y) (o61 + y * 1 + 0) hA6 rfl rfl rfl om9 Tryz.runUnderlying30 Tryz.sizeOf3 rfl) (ah_t 4 (fun w9 hs => (hs.front (.s2 .z))) rfl rfl kr9 (q_loadX rfl Tryz.isAgg3 (fun w9 hs => (hs.cellOf (.head _) (N9.new _ _ hA6) hlt6 (hget6 y _ hx6 0 _ rfl)))) (ah_t 5 (fun w9 hs => (hs.front (.s2 .z))) rfl rfl kr9 (q_move rfl) (ah_t 6 (fun w9 hs => (hs.front (.s2 .z))) rfl rfl kr9 (q_move rfl) ?_)))
   refine ah_t 7 (fun w9 hs => (hs.front (.s2 .z))) rfl rfl kr9 (q_indexAddrA (i := y) (o31 + y * 1 + 0) hA3 rfl rfl rfl om9 Tryz.runUnderlying30 Tryz.sizeOf3 rfl) (ah_t 8 (fun w9 hs => (hs.front (.s2 .z))) rfl rfl kr9 (q_loadX rfl Tryz.isAgg3 (fun w9 hs => (hs.below.cell (p := ⟨_, _, none⟩) hlt3).trans ((hget3 y _ hx3) 0 _ rfl))) ?_)
   refine ah_t 9 (fun w9 hs => (hs.front (.s2 .z))) rfl rfl kr9 (q_mul rfl rfl om9) ?_
   refine ah_t 10 (fun w9 hs => (hs.front (.s2 .z))) rfl rfl kr9 (q_add rfl rfl om9) (ah_one 11 rfl kr9 (fun hok3 hcl3 => ?_))
   refine al_p (q_assign rfl) (al_end (ah_last kr9 ?_))
   refine aq_inN (aq_then (ac_region (al_p (q_move rfl) ?_)))
   refine al_p (q_add rfl rfl om9) (al_p (q_assign rfl) (al_end (aq_then ?_)))
   skip
   refine aq_round (y + 1) om9 om9 ⟨rfl, rfl, rfl, rfl, rfl, rfl, rfl, rfl, (by rw [← hval2]; rfl), rfl, rfl, rfl, rfl, rfl, rfl, rfl, rfl, rfl, rfl, rfl, rfl, rfl, rfl, rfl, rfl, rfl, trivial⟩ (fun w9 hs => hs)
  ·have hye : y = R.la := by have := of_decide_eq_false h2; omega
   refine ac_exit (aq_thenE (aq_thenE (aq_hit (aq_then ?_))))
   refine ac_seq (ac_seq (ac_region ?_))
   refine al_p (q_assign rfl) (al_end (aq_then ?_))
   refine ac_block ?_
   refine ac_loop (β := Nat) (fun z => z ≤ l2) (fun z => [(2, (.slice A1 l1 c1)), (3, (.slice A2 l2 c2)), (4, (.pointer (some ⟨b1, 0, none⟩))), (5, (.pointer (some ⟨b2, 0, none⟩))), (8, (.slice none 0 0)), (9, (.slice (gA x.2.1) x.1 (gC x.2.1))), (10, (.int .i64 (x.1 : Int))), (11, (.slice A9 (fromL M ((sA M x.1).r, (sA M x.1).z)).length c9)), (12, (.int .i64 (dotTo (termA M ch (diffL pl S.C.plasma) (sA M x.1)) (R.la + z)))), (13, (.int .i64 (y : Int))), (14, (.int .i64 (z : Int))), (15, (.int .i64 (x.1 : Int))), (16, (.pointer (some ⟨b1, 2, none⟩))), (17, (.slice (R.B) R.lb R.cb)), (18, (.int .i64 (R.lb : Int))), (22, (.agg (machCells R M))), (23, (.pointer (some ⟨b1, 2, none⟩))), (24, (.slice (R.B) R.lb R.cb)), (25, (.int .i64 (x.1 : Int))), (26, (.pointer (some ⟨b11, o11 + x.1 * 4 + 0, none⟩))), (27, (.pointer (some ⟨b11, o11 + x.1 * 4 + 0, none⟩))), (29, (.pointer (some ⟨b1, 2, none⟩))), (30, (.slice (R.B) R.lb R.cb)), (31, (.int .i64 (x.1 : Int))), (32, (.pointer (some ⟨b11, o11 + x.1 * 4 + 0, none⟩))), (33, (.pointer (some ⟨b11, o11 + x.1 * 4 + 1, none⟩))), (36, (.slice A9 (fromL M ((sA M x.1).r, (sA M x.1).z)).length c9)), (37, (.int .i64 (y : Int))), (38, (.pointer (some ⟨b1, 1, none⟩))), (39, (.slice (R.A) R.la R.ca)), (40, (.int .i64 (R.la : Int)))]) (fun _ => _) (fun z => (b2, _) :: (b1, _) :: (gt x.2.1 x.2.2 ++ ([]))) (fun z => l2 - z) 0 om9 ⟨rfl, rfl, rfl, rfl, rfl, rfl, rfl, rfl, (by rw [hye]; rfl), rfl, rfl, rfl, rfl, rfl, rfl, rfl, rfl, rfl, rfl, rfl, rfl, rfl, rfl, rfl, rfl, rfl, rfl, rfl, rfl, rfl, rfl, trivial⟩ (fun w9 hs => hs) (fun z hF3 => ?_)
   refine ac_seq (ac_seq (ac_region ?_))
   refine al_p (q_move rfl) (al_p (q_move rfl) (al_p (q_lenS rfl Tryz.runUnderlying30) (al_p (q_lss rfl rfl) (al_end (aq_then ?_)))))
   refine ac_cond rfl (fun h3 => ?_) (fun h3 => ?_)
   ·have hzl : z < l2 := by have := of_decide_eq_true h3; omega
    obtain ⟨b41, o41, hA4, hlt4, hget4⟩ := i2.2 om9
    have hx4 := iA_get (l := pl) (k := z) om9
    obtain ⟨b21, o21, hA2, hlt2, hget2⟩ := hS.cur.plasma.2 om9
    have hx2 := iA_get (l := S.C.plasma) (k := z) om9
    have g4 := hp.plasma.2 _ (List.mem_of_getElem? hx4)
    have g2 := hF.cur.plasma.2 _ (List.mem_of_getElem? hx2)
    have hx7 : (fromL M ((sA M x.1).r, (sA M x.1).z))[R.la + R.lb + z]? = some (lkA M (sA M x.1) (R.la + z)) := by
     unfold lkA; rw [if_neg om9, show R.la + z - M.coils.length = z from by omega, show R.la + R.lb + z = M.coils.length + (M.shells.length + z) from by omega]; exact from_cell om9
    have e1 := htb (R.la + z) om9
    have e2 := dotTo_bd (f := (termA M ch (diffL pl S.C.plasma) (sA M x.1))) (B := 50000000000000) (R.la + z) (fun k hk => htb k om9)
    have e3 : (termA M ch (diffL pl S.C.plasma) (sA M x.1)) (R.la + z) = lkA M (sA M x.1) (R.la + z) * (iA pl z - iA S.C.plasma z) := by
     unfold termA; rw [show R.la + z = ch.length + z from by omega, iA_app]; unfold diffL; rw [iA_lst _ om9]
    rw [e3] at e1
    have hval3 : dotTo (termA M ch (diffL pl S.C.plasma) (sA M x.1)) (R.la + z) + lkA M (sA M x.1) (R.la + z) * (iA pl z - iA S.C.plasma z) = dotTo (termA M ch (diffL pl S.C.plasma) (sA M x.1)) (R.la + z + 1) := by simp only [dotTo]; rw [e3]
    refine ac_skip (aq_then (ac_seq (ac_block (ac_drawF 26 (.s (.s .z)) kr9 kr9 ?_))))
    refine ah_t 0 (fun w9 hs => (hs.front (.s2 .z))) rfl rfl kr9 (q_move rfl) (ah_t 1 (fun w9 hs => (hs.front (.s2 .z))) rfl rfl kr9 (q_move rfl) ?_)
    refine ah_t 2 (fun w9 hs => (hs.front (.s2 .z))) rfl rfl kr9 (q_fieldAddr 1 rfl Tryz.runUnderlying29 rfl Tryz.sizeOf22 de9 rfl) (ah_t 3 (fun w9 hs => (hs.front (.s2 .z))) rfl rfl kr9 (q_load (i := 1) rfl rfl rfl Tryz.isAgg22) (ah_t 4 (fun w9 hs => (hs.front (.s2 .z))) rfl rfl kr9 (q_lenS rfl Tryz.runUnderlying22) ?_))
    refine ah_t 5 (fun w9 hs => (hs.front (.s2 .z))) rfl rfl kr9 (q_fieldAddr 2 rfl Tryz.runUnderlying29 rfl Tryz.sizeOf23 de9 rfl) (ah_t 6 (fun w9 hs => (hs.front (.s2 .z))) rfl rfl kr9 (q_load (i := 1) rfl rfl rfl Tryz.isAgg23) (ah_t 7 (fun w9 hs => (hs.front (.s2 .z))) rfl rfl kr9 (q_lenS rfl Tryz.runUnderlying23) ?_))
    refine ah_t 8 (fun w9 hs => (hs.front (.s2 .z))) rfl rfl kr9 (q_add rfl rfl om9) (ah_t 9 (fun w9 hs => (hs.front (.s2 .z))) rfl rfl kr9 (q_move rfl) ?_)
    refine ah_t 10 (fun w9 hs => (hs.front (.s2 .z))) rfl rfl kr9 (q_add rfl rfl om9) ?_
    refine ah_t 11 (fun w9 hs => (hs.front (.s2 .z))) rfl rfl kr9 (q_indexAddrA (i := (R.la + R.lb + z)) (o61 + (R.la + R.lb + z) * 1 + 0) hA6 rfl rfl om9 om9 Tryz.runUnderlying30 Tryz.sizeOf3 rfl) (ah_t 12 (fun w9 hs => (hs.front (.s2 .z))) rfl rfl kr9 (q_loadX rfl Tryz.isAgg3 (fun w9 hs => (hs.cellOf (.head _) (N9.new _ _ hA6) hlt6 (hget6 (R.la + R.lb + z) _ hx7 0 _ rfl)))) (ah_t 13 (fun w9 hs => (hs.front (.s2 .z))) rfl rfl kr9 (q_move rfl) (ah_t 14 (fun w9 hs => (hs.front (.s2 .z))) rfl rfl kr9 (q_move rfl) ?_)))
    refine ah_t 15 (fun w9 hs => (hs.front (.s2 .z))) rfl rfl kr9 (q_indexAddrA (i := z) (o41 + z * 1 + 0) hA4 rfl rfl rfl om9 Tryz.runUnderlying30 Tryz.sizeOf3 rfl) (ah_t 16 (fun w9 hs => (hs.front (.s2 .z))) rfl rfl kr9 (q_loadX rfl Tryz.isAgg3 (fun w9 hs => (hs.below.cell (p := ⟨_, _, none⟩) hlt4).trans ((hget4 z _ hx4) 0 _ rfl))) ?_)
    refine ah_t 17 (fun w9 hs => (hs.front (.s2 .z))) rfl rfl kr9 (q_fieldAddr 1 rfl Tryz.runUnderlying35 rfl Tryz.sizeOf32 de9 rfl) ?_
    refine ah_t 18 (fun w9 hs => (hs.front (.s2 .z))) rfl rfl kr9 (q_fieldAddr 3 rfl Tryz.runUnderlying32 rfl Tryz.sizeOf30 de9 rfl) (ah_t 19 (fun w9 hs => (hs.front (.s2 .z))) rfl rfl kr9 (q_load (i := 0) rfl rfl rfl Tryz.isAgg30) (ah_t 20 (fun w9 hs => (hs.front (.s2 .z))) rfl rfl kr9 (q_move rfl) ?_))
    refine ah_t 21 (fun w9 hs => (hs.front (.s2 .z))) rfl rfl kr9 (q_indexAddrA (i := z) (o21 + z * 1 + 0) hA2 rfl rfl rfl om9 Tryz.runUnderlying30 Tryz.sizeOf3 rfl) (ah_t 22 (fun w9 hs => (hs.front (.s2 .z))) rfl rfl kr9 (q_loadX rfl Tryz.isAgg3 (fun w9 hs => (hs.below.cell (p := ⟨_, _, none⟩) hlt2).trans ((hget2 z _ hx2) 0 _ rfl))) ?_)
    refine ah_t 23 (fun w9 hs => (hs.front (.s2 .z))) rfl rfl kr9 (q_sub rfl rfl om9) ?_
    refine ah_t 24 (fun w9 hs => (hs.front (.s2 .z))) rfl rfl kr9 (q_mul rfl rfl om9) ?_
    refine ah_t 25 (fun w9 hs => (hs.front (.s2 .z))) rfl rfl kr9 (q_add rfl rfl om9) (ah_one 26 rfl kr9 (fun hok4 hcl4 => ?_))
    refine al_p (q_assign rfl) (al_end (ah_last kr9 ?_))
    refine aq_inN (aq_then (aq_keepL [2, 3, 4, 5, 8, 9, 10, 11, 12, 13, 14, 15, 16, 17, 18, 22, 23, 24, 25, 26, 27, 29, 30, 31, 32, 33, 36, 37, 38, 39, 40, 55, 56, 57, 58, 61, 62, 63, 64, 65, 66, 67, 68, 69, 70, 71, 72, 73, 74, 75, 76, 77, 78, 79, 80, 81, 82, 83, 84, 85, 86] (.cons rfl (.cons rfl (.cons rfl (.cons rfl (.cons rfl (.cons rfl (.cons rfl (.cons rfl (.cons rfl (.cons rfl (.cons rfl (.cons rfl (.cons rfl (.cons rfl (.cons rfl (.cons rfl (.cons rfl (.cons rfl (.cons rfl (.cons rfl (.cons rfl (.cons rfl (.cons rfl (.cons rfl (.cons rfl (.cons rfl (.cons rfl (.cons rfl (.cons rfl (.cons rfl (.cons rfl (.cons rfl (.cons rfl (.cons rfl (.cons rfl (.cons rfl (.cons rfl (.cons rfl (.cons rfl (.cons rfl (.cons rfl (.cons rfl (.cons rfl (.cons rfl (.cons rfl (.cons rfl (.cons rfl (.cons rfl (.cons rfl (.cons rfl (.cons rfl (.cons rfl (.cons rfl (.cons rfl (.cons rfl (.cons rfl (.cons rfl (.cons rfl (.cons rfl (.cons rfl (.cons rfl .nil))))))))))))))))))))))))))))))))))))))))))))))))))))))))))))) ?_))
    refine ac_region (al_p (q_move rfl) ?_)
    refine al_p (q_add rfl rfl om9) (al_p (q_assign rfl) (al_end (aq_then ?_)))
    skip
    refine aq_round (z + 1) om9 om9 ⟨rfl, rfl, rfl, rfl, rfl, rfl, rfl, rfl, (by rw [← Nat.add_assoc, ← hval3]; rfl), rfl, rfl, rfl, rfl, rfl, rfl, rfl, rfl, rfl, rfl, rfl, rfl, rfl, rfl, rfl, rfl, rfl, rfl, rfl, rfl, rfl, rfl, trivial⟩ (fun w9 hs => hs)
   ·have hze : z = l2 := by have := of_decide_eq_false h3; omega
    subst hze
    have e2 := dotTo_bd (f := (termA M ch (diffL pl S.C.plasma) (sA M x.1))) (B := 50000000000000) (R.la + z) (fun k hk => htb k om9)
    have hval : indA M ch (diffL pl S.C.plasma) x.1 = ((dotTo (termA M ch (diffL pl S.C.plasma) (sA M x.1)) (R.la + z)).tdiv (sA M x.1).self) := by unfold indA; rw [show M.coils.length + cellN M = R.la + z from by omega]
    refine ac_exit (aq_thenE (aq_thenE (aq_hit (aq_then ?_))))
    refine ac_region (al_p (q_move rfl) (al_p (q_move rfl) ?_))
    refine al_p (q_fieldAddr 2 rfl Tryz.runUnderlying29 rfl Tryz.sizeOf23 de9 rfl) (al_p (q_load (i := 1) rfl rfl rfl Tryz.isAgg23) (al_p (q_move rfl) ?_))
    refine al_p (q_indexAddrA (i := x.1) (o11 + x.1 * 4 + 0) hA1 rfl rfl rfl om9 Tryz.runUnderlying23 Tryz.sizeOf142 rfl) ?_
    refine al_p (q_fieldAddr (o11 + x.1 * 4 + 2) rfl Tryz.runUnderlying142 rfl Tryz.sizeOf3 de9 rfl) (al_p (q_loadX rfl Tryz.isAgg3 (fun w9 hs => (hs.below.cell (p := ⟨_, _, none⟩) hlt1).trans ((hget1 x.1 _ hx1) 2 _ rfl))) ?_)
    refine al_p (q_quo rfl rfl om9) (al_new (fun b => .slice (some ⟨b, 0, none⟩) 1 1) (r_buildSlice (.cons rfl .nil) (kzb_bs_int_1_0_ _ rfl)) rfl rfl rfl ?_)
    intro b3
    refine al_grow (z := 1) (bytes := 8) (zv := (.int .i64 0)) (o := x.2.1) (cs := x.2.2) (vs := [.int .i64 ((dotTo (termA M ch (diffL pl S.C.plasma) (sA M x.1)) (R.la + z)).tdiv (sA M x.1).self)]) rfl rfl (.s3 .z) hgk (Sor.box (j := 0) rfl rfl rfl) Tryz.underlying30 kr9 rfl om9 de9 rfl rfl (fun o_1 g_1 => ?_)
    refine ⟨_, (.s3 .z), ?_⟩
    refine al_p (q_assign rfl) (al_end (aq_inN (aq_then (ac_region ?_))))
    refine al_p (q_move rfl) ?_
    refine al_p (q_add rfl rfl om9) (al_p (q_assign rfl) (al_end (aq_then ?_)))
    skip
    refine aq_round ((x.1 + 1, o_1, (x.2.2 ++ [.int .i64 ((dotTo (termA M ch (diffL pl S.C.plasma) (sA M x.1)) (R.la + z)).tdiv (sA M x.1).self)]))) (by simp only; omega) ⟨by simp only; omega, g_1, by simp only; rw [hcs, lst_snoc, List.map_append, hval]; rfl⟩ ⟨rfl, rfl, rfl, rfl, rfl, rfl, rfl, trivial⟩ (fun w9 hs => ((hs.fewer 1 rfl).tail 1 rfl))
 ·have hxe : x.1 = R.lb := by have := of_decide_eq_false h1; omega
  refine ac_exit (aq_thenE (aq_thenE (aq_hit (aq_then ?_))))
  refine ac_seq (ac_region ?_)
  refine al_p (q_move rfl) (al_p (q_assign rfl) (al_end (aq_then ?_)))
  refine ac_ret (ret1 Tryz.results83 rfl (fun w9 hs => ?_))
  have hn : x.1 = R.lb := hxe
  exact ⟨gA x.2.1, gC x.2.1, by rw [← hn], by rw [← hn]; exact hs.grown (enc := intCells) (o := x.2.1) (cs := x.2.2) (fun _ => rfl) (fun y hy => by simp [hy]) hgk (by rw [hcs, indL, n2, ← hn, flat_int]) (by rw [indL, lst_length]; omega), hs.below⟩
end
end Go.Proofs.YthggkidiidnaoaaGreat
