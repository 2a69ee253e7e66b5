import Derived.Test.YtogcjgjhmlifgaaGreatOBJ
import Derived.Test.YtogcjgjhmlifgaaGreatRows
import Derived.KernelRfl
import Derived.Laws.StructEq
namespace Go.Proofs.YtogcjgjhmlifgaaGreat
set_option linter.unusedVariables false
set_option linter.unusedSimpArgs false
section
open Go.RowKit
theorem chkboxY (R : MachR) (M : MachD) (Q : CurR) (C : CurD) (X : Option Addr) (nx cx : Nat) (xs : List SpanD) (t : Int) (w : World) (hM : IsM w R M) (hC : IsC w Q C) (hS : IsT 2 SpanD.cells w X nx xs) (hv : validC M C = true) (hb : boxB M t xs = true) (t0 : 1 ≤ t) (t1 : t ≤ 1000000) : Calls Tryz.prog 59 #[.agg (mCs R M).toArray, .agg (cCs Q).toArray, .int .i64 t, .slice X nx cx] w (Ret (.int .i64 0) w) := by
  have h := checkBox_any R M Q C w hM hC X nx cx xs t hS
  rwa [hv, hb, wthn_iff.2 ⟨t0, t1⟩] at h
theorem ptX_at (js : List Int) {n k : Nat} (hk : k < n) : spA (lst n (ptX js)) k = ⟨iA js k, iA js k⟩ := spA_of (lst_get _ hk)
theorem ptX_fit {M : MachD} {t : Int} {js : List Int} {n : Nat} (hc : checkC M = 0) (hn : n = cellN M) (hb : ∀ k, k < n → 0 ≤ iA js k ∧ iA js k ≤ t) : FitX M t (lst n (ptX js)) :=
  ⟨hc, by rw [lst_length, hn], fun a ha => by
    obtain ⟨k, hk, rfl⟩ := List.mem_map.1 ha
    have := hb k (List.mem_range.1 hk)
    exact ⟨this.1, Int.le_refl _, this.2⟩⟩
set_option maxRecDepth 100000 in
theorem imbox_any (R : MachR) (M : MachD) (Q : CurR) (C : CurD) (X : Option Addr) (nx cx : Nat) (xs : List SpanD) (t : Int) (w : World) (hM : IsM w R M) (hC : IsC w Q C) (hS : IsT 2 SpanD.cells w X nx xs) (hv : validC M C = true) (hb : boxB M t xs = true) (t0 : 1 ≤ t) (t1 : t ≤ 1000000) : Calls Tryz.prog 39 #[(.agg (mCs R M).toArray), (.agg (cCs Q).toArray), (.int .i64 t), (.slice X nx cx)] w (OutT 2 SpanD.cells w (imE M C xs) (imR M C t xs)) := by
  have hf := fit2_iff.1 hv
  have hX := boxB_iff.1 hb
  refine calls_ax (vs := [(.agg (mCs R M).toArray), (.agg (cCs Q).toArray), (.int .i64 t), (.slice X nx cx)]) Tryz.func39 rfl rfl ?_
  refine ac_seq (ac_region ?_)
  refine al_new (fun b => .pointer (some ⟨b, 0, none⟩)) (r_box rfl rfl) rfl rfl rfl ?_
  intro b1
  refine al_new (fun b => .pointer (some ⟨b, 0, none⟩)) (r_box rfl rfl) rfl rfl rfl ?_
  intro b2
  refine al_p (q_assign rfl) (al_p (q_assign rfl) (al_end (aq_then ?_)))
  refine ac_seq (ac_seq (ac_region ?_))
  refine al_p (q_loadAll (i := 1) rfl rfl Tryz.isAgg29 Tryz.sizeOf29 rfl) (al_p (q_loadAll (i := 0) rfl rfl Tryz.isAgg32 Tryz.sizeOf32 rfl) (al_p (q_move rfl) (al_p (q_move rfl) (al_call Tryz.call59 (.cons rfl (.cons rfl (.cons rfl (.cons rfl .nil)))) rfl rfl (fun w1 hs1 => ?_)))))
  refine (chkboxY R M Q C X nx cx xs t _ (hM.below hs1.below) (hC.below hs1.below) (hS.below hs1.below) hv hb t0 t1).mono ?_
  rintro e u1 ⟨rfl, hb_1⟩
  refine ⟨_, rfl, hb_1, ?_⟩
  clear hs1
  refine al_p (q_assign rfl) (al_end (aq_then ?_))
  refine ac_seq (ac_region ?_)
  refine al_p (q_move rfl) ?_
  refine al_p (q_same (v' := .bool false) (q_neq rfl rfl) (by simp)) (al_end (aq_then ?_))
  refine ac_condF rfl (ac_skip (aq_then (ac_seq (ac_region ?_))))
  refine al_p (q_loadAll (i := 1) rfl rfl Tryz.isAgg29 Tryz.sizeOf29 rfl) (al_p (q_loadAll (i := 0) rfl rfl Tryz.isAgg32 Tryz.sizeOf32 rfl) (al_call Tryz.call60 (.cons rfl (.cons rfl .nil)) rfl rfl (fun w2 hs2 => ?_)))
  refine (fieldOf_any R M Q C _ (hM.below hs2.below) (hC.below hs2.below) hf).mono ?_
  rintro e u2 ⟨A1, c1, A2, c2, rfl, k1_, k2_, hb_2⟩
  have hc2 := k2_.le.1
  refine ⟨_, rfl, hb_2, ?_⟩
  clear hs2
  refine al_p (q_move rfl) (al_p (q_move rfl) (al_call Tryz.call82 (.cons rfl (.cons rfl (.cons rfl .nil))) rfl rfl (fun w3 hs3 => ?_)))
  refine (image_any M C A1 A2 X c1 c2 nx _ xs t _ hf hX (by omega) t1 (hs3.newT (.head _) k1_) (hs3.newT (.head _) k2_) hc2 (hS.below hs3.below)).mono ?_
  rintro e u3 ⟨A3, n3, c3, rfl, N3, hb_3⟩
  refine ⟨_, rfl, hb_3, ?_⟩
  clear hs3
  refine al_p (q_extract rfl rfl) (al_p (q_extract rfl rfl) (al_p (q_assign rfl) (al_p (q_assign rfl) (al_end (aq_then ?_)))))
  refine ac_ret (ret2 Tryz.results39 rfl rfl (fun w9 hs => ?_))
  exact OutT.ok (hs.newT2 (.head _) N3) hs.below
end
section
open Go.RowKit
set_option maxRecDepth 100000 in
theorem rat5_any (R : MachR) (M : MachD) (Q : CurR) (C : CurD) (J : Option Addr) (nj cj : Nat) (js : List Int) (p : PointD) (t : Int) (w : World) (hM : IsM w R M) (hC : IsC w Q C) (hJ : IsT 1 intCells w J nj js) (hf : Fit2 M C) (hn : nj = cellN M) (ht : t ≤ 1000000) (hb : ∀ k, k < nj → 0 ≤ iA js k ∧ iA js k ≤ t) : Calls Tryz.prog 80 #[(.agg (mCs R M).toArray), (.agg (cCs Q).toArray), (.slice J nj cj), (.agg #[.int .i64 p.r, .int .i64 p.z])] w (Ret (.int .i64 (flS M C (lst nj (ptX js)) p).lo) w) := by
  have hcn := cellN_eq hf.check
  have n1 := hJ.1
  have hX := ptX_fit (js := js) (n := nj) (t := t) hf.check hn hb
  refine calls_ax (vs := [(.agg (mCs R M).toArray), (.agg (cCs Q).toArray), (.slice J nj cj), (.agg #[.int .i64 p.r, .int .i64 p.z])]) Tryz.func80 rfl rfl ?_
  refine ac_seq (ac_region ?_)
  refine al_new (fun b => .pointer (some ⟨b, 0, none⟩)) (r_box rfl rfl) rfl rfl rfl ?_
  intro b1
  refine al_new (fun b => .pointer (some ⟨b, 0, none⟩)) (r_box rfl rfl) rfl rfl rfl ?_
  intro b2
  refine al_new (fun b => .pointer (some ⟨b, 0, none⟩)) (r_box rfl rfl) rfl rfl rfl ?_
  intro b3
  refine al_p (q_assign rfl) (al_end (aq_then ?_))
  refine ac_seq (ac_region ?_)
  refine al_p (q_loadAll (i := 2) rfl rfl Tryz.isAgg29 Tryz.sizeOf29 rfl) (al_p (q_loadAll (i := 1) rfl rfl Tryz.isAgg32 Tryz.sizeOf32 rfl) (al_p (q_loadAll (i := 0) rfl rfl Tryz.isAgg36 Tryz.sizeOf36 rfl) (al_call Tryz.call45 (.cons rfl (.cons rfl (.cons rfl .nil))) rfl rfl (fun w1 hs1 => ?_))))
  refine (rknown_any R M Q C _ (hM.below hs1.below) (hC.below hs1.below) p hf).mono ?_
  rintro e u1 ⟨rfl, hb_1⟩
  refine ⟨_, rfl, hb_1, ?_⟩
  clear hs1
  refine al_p (q_assign rfl) (al_end (aq_then ?_))
  refine ac_seq (ac_region ?_)
  refine al_p (q_loadAll (i := 2) rfl rfl Tryz.isAgg29 Tryz.sizeOf29 rfl) (al_p (q_loadAll (i := 0) rfl rfl Tryz.isAgg36 Tryz.sizeOf36 rfl) (al_call Tryz.call103 (.cons rfl (.cons rfl .nil)) rfl rfl (fun w2 hs2 => ?_)))
  refine (rweights_any R M p _ (hM.below hs2.below) hf.check).mono ?_
  rintro e u2 ⟨A7, n7, c7, rfl, N7, hb_2⟩
  have n7e := N7.isT.1
  rw [lst_length] at n7e
  refine ⟨_, rfl, hb_2, ?_⟩
  clear hs2
  refine al_p (q_assign rfl) (al_end (aq_then ?_))
  refine ac_seq (ac_seq (ac_region ?_))
  refine al_p (q_assign rfl) (al_end (aq_then ?_))
  refine ac_block ?_
  refine ac_loop (β := Nat) (fun k => k ≤ nj) (fun k => [(2, (.slice J nj cj)), (8, (.int .i64 0)), (9, (.int .i64 (loT M C p (lst nj (ptX js)) k))), (10, (.slice A7 n7 c7)), (11, (.int .i64 (k : Int)))]) (fun _ => _) (fun k => [(b3, _), (b2, _), (b1, _)]) (fun k => nj - k) 0 (by omega) ⟨rfl, rfl, (by rw [show loT M C p (lst nj (ptX js)) 0 = knP M C p by simp [loT, dotTo]]; rfl), rfl, rfl, trivial⟩ (fun w9 hs => hs) (fun k hF1 => ?_)
  refine ac_seq (ac_seq (ac_region ?_))
  refine al_p (q_move rfl) (al_p (q_move rfl) (al_p (q_lenS rfl Tryz.runUnderlying30) (al_p (q_lss rfl rfl) (al_end (aq_then ?_)))))
  refine ac_cond rfl (fun h1 => ?_) (fun h1 => ?_)
  · have hkn : k < nj := by have := of_decide_eq_true h1; omega
    obtain ⟨b11, o11, hA1, hlt1, hget1⟩ := hJ.2 (by omega)
    have hx1 := iA_get (l := js) (k := k) (by omega)
    obtain ⟨b71, o71, hA7, hlt7, hget7⟩ := N7.isT.2 (by omega)
    have hx7 := lst_get (wgt M p) (n := cellN M) (k := k) (by omega)
    have hpk := ptX_at js hkn
    have g1 := wl_bd hX ht p (k := k) (by omega)
    have g2 := part_bd hf hX ht p (n := k) (by omega)
    have g3 := part_bd hf hX ht p (n := k + 1) (by omega)
    rw [loT_succ, hiT_succ, hpk] at g3
    rw [hpk] at g1
    dsimp only at g1 g3
    refine ac_skip (aq_then (ac_seq (ac_block (ac_draw 11 (by kernel_rfl) (by kernel_rfl) ?_))))
    refine ah_t 0 (fun w9 hs => hs) rfl rfl (by kernel_rfl) (q_move rfl) (ah_t 1 (fun w9 hs => hs) rfl rfl (by kernel_rfl) (q_move rfl) (ah_t 2 (fun w9 hs => hs) rfl rfl (by kernel_rfl) (q_move rfl) ?_))
    refine ah_t 3 (fun w9 hs => hs) rfl rfl (by kernel_rfl) (q_indexAddrA (i := k) (o71 + k * 1 + 0) hA7 rfl rfl rfl (by omega) Tryz.runUnderlying30 Tryz.sizeOf3 rfl) (ah_t 4 (fun w9 hs => hs) rfl rfl (by kernel_rfl) (q_loadX rfl Tryz.isAgg3 (fun w9 hs => (cell_blkx ((hs.snap _ _ (.head _)).2.2.2.1 b71 (N7.new _ _ hA7) hlt7)).trans ((hget7 k _ hx7) 0 _ rfl))) (ah_t 5 (fun w9 hs => hs) rfl rfl (by kernel_rfl) (q_move rfl) (ah_t 6 (fun w9 hs => hs) rfl rfl (by kernel_rfl) (q_move rfl) ?_)))
    refine ah_t 7 (fun w9 hs => hs) rfl rfl (by kernel_rfl) (q_indexAddrA (i := k) (o11 + k * 1 + 0) hA1 rfl rfl rfl (by omega) Tryz.runUnderlying30 Tryz.sizeOf3 rfl) (ah_t 8 (fun w9 hs => hs) rfl rfl (by kernel_rfl) (q_loadX rfl Tryz.isAgg3 (fun w9 hs => (hs.below.cell (p := ⟨_, _, none⟩) hlt1).trans ((hget1 k _ hx1) 0 _ rfl))) ?_)
    refine ah_t 9 (fun w9 hs => hs) rfl rfl (by kernel_rfl) (q_mul rfl rfl (by omega)) ?_
    refine ah_t 10 (fun w9 hs => hs) rfl rfl (by kernel_rfl) (q_add rfl rfl (by omega)) (ah_one 11 rfl (by kernel_rfl) (fun hok1 hcl1 => ?_))
    refine al_p (q_assign rfl) (al_end (ah_last (by kernel_rfl) ?_))
    refine aq_inN (aq_then (ac_region (al_p (q_move rfl) ?_)))
    refine al_p (q_add rfl rfl (by omega)) (al_p (q_assign rfl) (al_end (aq_then ?_)))
    skip
    refine aq_round (k + 1) (by omega) (by omega) ⟨rfl, rfl, (by rw [loT_succ, hpk]; rfl), rfl, rfl, trivial⟩ (fun w9 hs => hs)
  · have hke : k = cellN M := by have := of_decide_eq_false h1; omega
    refine ac_exit (aq_thenE (aq_thenE (aq_hit (aq_then ?_))))
    refine ac_seq (ac_region ?_)
    refine al_p (q_move rfl) (al_p (q_assign rfl) (al_end (aq_then ?_)))
    refine ac_ret (ret1 Tryz.results80 rfl (fun w9 hs => ?_))
    exact ⟨by rw [hke]; rfl, hs.below⟩
theorem tpJ_lim {f : Nat → Int} {n : Nat} (h : 1 ≤ n) : tpJ f n = topTo f (n - 1) := by
  obtain ⟨m, rfl⟩ : ∃ m, n = m + 1 := ⟨n - 1, by omega⟩
  rfl
theorem flS_pt {M : MachD} {C : CurD} {js : List Int} {n : Nat} (hn : n = cellN M) (p : PointD) : (flS M C (lst n (ptX js)) p).hi = (flS M C (lst n (ptX js)) p).lo := by
  show hiT M C p _ (cellN M) = loT M C p _ (cellN M)
  unfold hiT loT
  congr 1
  refine dotTo_ext _ fun k hk => ?_
  rw [ptX_at js (by omega)]
theorem bdS_pt {M : MachD} {C : CurD} {js : List Int} {n : Nat} (hn : n = cellN M) : (bdS M C (lst n (ptX js))).hi = (bdS M C (lst n (ptX js))).lo := by
  have e : (fun k => (flS M C (lst n (ptX js)) (limP M k)).hi) = fun k => (flS M C (lst n (ptX js)) (limP M k)).lo := funext fun k => flS_pt hn _
  show topTo _ _ = topTo _ _
  rw [e]
theorem rmost_v {a b v : Int} (h : max a b = v) (w : World) : Calls Tryz.prog 81 #[.int .i64 a, .int .i64 b] w (Ret (.int .i64 v) w) := by
  have h9 := rmost_any a b w
  rwa [h] at h9
def exC5 (M : MachD) (C : CurD) (xs : List SpanD) (k : Nat) : List Value := (lst k (fun j => (exA M C xs j).lo)).flatMap intCells
theorem exC5_succ (M : MachD) (C : CurD) (xs : List SpanD) (k : Nat) : exC5 M C xs (k + 1) = exC5 M C xs k ++ [.int .i64 (exA M C xs k).lo] := by unfold exC5; rw [lst_snoc, List.flatMap_append]; simp [intCells]
theorem erb_bs_int_1_0_ (a0 : Value) (ha0 : a0.oneCell' = true) : ∀ w, (Instr.buildSlice 30 1 #[(0, a0)]).run Tryz.prog w = .ok (.slice (some ⟨w.heap.size, 0, none⟩) 1 1) (w.alloc (.cells [a0].toArray 3)) := by
  have ea0 : a0.cells = #[a0] := cells_one ha0
  intro w; (simp [Instr.buildSlice, Instr.fill, cells_agg, newRow, Tryz.runUnderlying30, Tryz.zeroValue3, Tryz.sizeOf3, ea0] <;> (rw [(by kernel_rfl : Array.range 1 = #[0])]; simp [Value.cells]))
set_option maxRecDepth 100000 in
theorem rExcesses_any (R : MachR) (M : MachD) (Q : CurR) (C : CurD) (J : Option Addr) (nj cj : Nat) (js : List Int) (t : Int) (w : World) (hM : IsM w R M) (hC : IsC w Q C) (hJ : IsT 1 intCells w J nj js) (hf : Fit2 M C) (hn : nj = cellN M) (ht : t ≤ 1000000) (hb : ∀ k, k < nj → 0 ≤ iA js k ∧ iA js k ≤ t) : Calls Tryz.prog 38 #[(.agg (mCs R M).toArray), (.agg (cCs Q).toArray), (.slice J nj cj)] w (fun e w' => ∃ A c, e = .returned (.tuple #[.slice A (cellN M) c, .int .i64 (exLo M C (lst nj (ptX js)))]) ∧ NewT 1 intCells w.heap.size w' A (cellN M) c (lst (cellN M) (fun k => (exA M C (lst nj (ptX js)) k).lo)) ∧ Below w.heap.size w w') := by
  have hcn := cellN_eq hf.check
  have n1 := hJ.1
  have hX := ptX_fit (js := js) (n := nj) (t := t) hf.check hn hb
  have n3 := hM.limits.1
  have hlp := limits_pos hf.check
  have hlm := limits_most hf.check
  obtain ⟨b31, o31, hA3, hlt3, hget3⟩ := hM.limits.2 (by omega)
  refine calls_ax (vs := [(.agg (mCs R M).toArray), (.agg (cCs Q).toArray), (.slice J nj cj)]) Tryz.func38 rfl rfl ?_
  refine ac_seq (ac_region ?_)
  refine al_new (fun b => .pointer (some ⟨b, 0, none⟩)) (r_box rfl rfl) rfl rfl rfl ?_
  intro b1
  refine al_new (fun b => .pointer (some ⟨b, 0, none⟩)) (r_box rfl rfl) rfl rfl rfl ?_
  intro b2
  refine al_p (q_assign rfl) (al_p (q_assign rfl) (al_end (aq_then ?_)))
  refine ac_seq (ac_region ?_)
  refine al_p (q_assign rfl) (al_end (aq_then ?_))
  refine ac_seq (ac_seq (ac_region ?_))
  refine al_p (q_assign rfl) (al_end (aq_then ?_))
  refine ac_block ?_
  refine ac_loop (β := Nat) (fun k => k ≤ R.lc) (fun k => [(2, (.slice J nj cj)), (3, (.pointer (some ⟨b1, 0, none⟩))), (4, (.pointer (some ⟨b2, 0, none⟩))), (6, (.slice none 0 0)), (7, (.int .i64 0)), (8, (.int .i64 (tpJ (fun k => (flS M C (lst nj (ptX js)) (limP M k)).lo) k))), (9, (.int .i64 (k : Int)))]) (fun _ => _) (fun k => [(b2, _), (b1, _)]) (fun k => R.lc - k) 0 (by omega) ⟨rfl, rfl, rfl, rfl, rfl, rfl, rfl, trivial⟩ (fun w9 hs => hs) (fun k hF1 => ?_)
  refine ac_seq (ac_seq (ac_region ?_))
  refine al_p (q_move rfl) ?_
  refine al_p (q_fieldAddr 3 rfl Tryz.runUnderlying29 rfl Tryz.sizeOf24 (by decide) rfl) (al_p (q_load (i := 1) rfl rfl rfl Tryz.isAgg24) (al_p (q_lenS rfl Tryz.runUnderlying24) (al_p (q_lss rfl rfl) (al_end (aq_then ?_)))))
  refine ac_cond rfl (fun h1 => ?_) (fun h1 => ?_)
  · have hkn : k < R.lc := by have := of_decide_eq_true h1; omega
    have hx3 := limP_get (M := M) (k := k) (by omega)
    refine ac_skip (aq_then (ac_seq (ac_block (ac_seq ?_))))
    refine ac_draw 9 (by kernel_rfl) (by kernel_rfl) ?_
    refine ah_t 0 (fun w9 hs => hs) rfl rfl (by kernel_rfl) (q_loadAll (i := 1) rfl rfl Tryz.isAgg29 Tryz.sizeOf29 rfl) (ah_t 1 (fun w9 hs => hs) rfl rfl (by kernel_rfl) (q_loadAll (i := 0) rfl rfl Tryz.isAgg32 Tryz.sizeOf32 rfl) (ah_t 2 (fun w9 hs => hs) rfl rfl (by kernel_rfl) (q_move rfl) ?_))
    refine ah_t 3 (fun w9 hs => hs) rfl rfl (by kernel_rfl) (q_fieldAddr 3 rfl Tryz.runUnderlying29 rfl Tryz.sizeOf24 (by decide) rfl) (ah_t 4 (fun w9 hs => hs) rfl rfl (by kernel_rfl) (q_load (i := 1) rfl rfl rfl Tryz.isAgg24) (ah_t 5 (fun w9 hs => hs) rfl rfl (by kernel_rfl) (q_move rfl) ?_))
    refine ah_t 6 (fun w9 hs => hs) rfl rfl (by kernel_rfl) (q_indexAddrA (i := k) (o31 + k * 2 + 0) hA3 rfl rfl rfl (by omega) Tryz.runUnderlying24 Tryz.sizeOf36 rfl) (ah_t 7 (fun w9 hs => hs) rfl rfl (by kernel_rfl) (q_loadXs (PointD.cells (limP M k)) rfl Tryz.isAgg36 Tryz.sizeOf36 (fun w9 hs j9 v9 h9 => by rw [addr_add]; exact (hs.below.cell (p := ⟨_, _, none⟩) hlt3).trans ((hget3 k _ hx3) j9 v9 h9)) rfl) (ah_one 8 rfl (by kernel_rfl) (fun hok1 hcl1 => ?_)))
    refine al_call Tryz.call80 (.cons rfl (.cons rfl (.cons rfl (.cons rfl .nil)))) rfl rfl (fun w1 hs1 => ?_)
    refine (rat5_any R M Q C J nj cj js (limP M k) t _ (hM.below hs1.below) (hC.below hs1.below) (hJ.below hs1.below) hf hn ht hb).mono ?_
    rintro e u1 ⟨rfl, hb_1⟩
    refine ⟨_, rfl, hb_1, ?_⟩
    clear hs1
    refine al_end (ah_back hok1 hcl1 (fun w9 hs => (hs.fewer 1 rfl)) ?_)
    refine ah_t 9 (fun w9 hs => (hs.fewer 1 rfl)) rfl rfl (by kernel_rfl) (q_assign rfl) (ah_done (by kernel_rfl) ?_)
    refine aq_then (ac_seq (ac_region ?_))
    refine al_p (q_move rfl) (al_p (q_eql rfl rfl) (al_p (q_move rfl) ?_))
    refine aq_split 34 rfl (fun hb1 => ?_) (fun hb1 => ?_)
    · have hk0 : k = 0 := by simp at hb1; omega
      have hnx := tpJ_a (f := (fun k => (flS M C (lst nj (ptX js)) (limP M k)).lo)) hk0
      refine al_skip rfl rfl rfl (al_skip rfl rfl rfl (al_skip rfl rfl rfl (al_p (q_pickT rfl rfl) (al_end (aq_then ?_)))))
      refine ac_condT rfl (ac_region (al_p (q_move rfl) (al_p (q_assign rfl) (al_end ?_))))
      refine aq_inN (aq_then (ac_region (al_p (q_move rfl) ?_)))
      refine al_p (q_add rfl rfl (by omega)) (al_p (q_assign rfl) (al_end (aq_then ?_)))
      skip
      refine aq_round (k + 1) (by omega) (by omega) ⟨rfl, rfl, rfl, rfl, rfl, (by rw [hnx]; rfl), rfl, trivial⟩ (fun w9 hs => (hs.fewer 1 rfl))
    · have hk0 : k ≠ 0 := by simp at hb1; omega
      refine al_p (q_move rfl) (al_p (q_move rfl) (al_p (q_gtr rfl rfl) (al_p (q_pickF rfl rfl) (al_end (aq_then ?_)))))
      refine ac_cond rfl (fun h2 => ?_) (fun h2 => ?_)
      · have hnx := tpJ_b (f := (fun k => (flS M C (lst nj (ptX js)) (limP M k)).lo)) hk0 (of_decide_eq_true h2)
        refine ac_region (al_p (q_move rfl) (al_p (q_assign rfl) (al_end (aq_inN ?_))))
        refine aq_then (ac_region (al_p (q_move rfl) ?_))
        refine al_p (q_add rfl rfl (by omega)) (al_p (q_assign rfl) (al_end (aq_then ?_)))
        skip
        refine aq_round (k + 1) (by omega) (by omega) ⟨rfl, rfl, rfl, rfl, rfl, (by rw [hnx]; rfl), rfl, trivial⟩ (fun w9 hs => (hs.fewer 1 rfl))
      · have hnx := tpJ_c (f := (fun k => (flS M C (lst nj (ptX js)) (limP M k)).lo)) hk0 (by have := of_decide_eq_false h2; omega)
        refine ac_skip (aq_inN (aq_then (ac_region (al_p (q_move rfl) ?_))))
        refine al_p (q_add rfl rfl (by omega)) (al_p (q_assign rfl) (al_end (aq_then ?_)))
        skip
        refine aq_round (k + 1) (by omega) (by omega) ⟨rfl, rfl, rfl, rfl, rfl, (by rw [hnx]; rfl), rfl, trivial⟩ (fun w9 hs => (hs.fewer 1 rfl))
  · have hke1 : k = R.lc := by have := of_decide_eq_false h1; omega
    have hbd : tpJ (fun k => (flS M C (lst nj (ptX js)) (limP M k)).lo) k = (bdS M C (lst nj (ptX js))).lo := by rw [hke1, ← n3, tpJ_lim hlp]; rfl
    have g2 := bdS_bd hf hX ht
    refine ac_exit (aq_thenE (aq_thenE (aq_hit (aq_then ?_))))
    refine ac_seq (ac_region ?_)
    refine al_p (q_assign rfl) (al_end (aq_then ?_))
    refine ac_seq (ac_region ?_)
    refine al_p (q_assign rfl) (al_end (aq_then ?_))
    refine ac_seq (ac_region ?_)
    refine al_p (q_loadAll (i := 1) rfl rfl Tryz.isAgg29 Tryz.sizeOf29 rfl) (al_call Tryz.call64 (.cons rfl .nil) rfl rfl (fun w2 hs2 => ?_))
    refine (rcells5_any R M _ (hM.below hs2.below) hX.check).mono ?_
    rintro e u2 ⟨A7, c7, rfl, N7, hb_2⟩
    refine ⟨_, rfl, hb_2, ?_⟩
    clear hs2
    refine al_p (q_assign rfl) (al_end (aq_then ?_))
    refine ac_seq (ac_seq (ac_region ?_))
    refine al_p (q_assign rfl) (al_end (aq_then ?_))
    refine ac_block ?_
    refine ac_loop (β := Nat × Gr) (fun p => p.1 ≤ cellN M ∧ gok p.2 p.1 1 (exC5 M C (lst nj (ptX js)) p.1)) (fun p => [(2, (.slice J nj cj)), (3, (.pointer (some ⟨b1, 0, none⟩))), (4, (.pointer (some ⟨b2, 0, none⟩))), (6, (.slice none 0 0)), (7, (.int .i64 0)), (8, (.int .i64 (tpJ (fun k => (flS M C (lst nj (ptX js)) (limP M k)).lo) k))), (11, (.slice (gA p.2) p.1 (gC p.2))), (12, (.int .i64 (dotTo (fun k => (exA M C (lst nj (ptX js)) k).lo) p.1))), (13, (.slice A7 (cellN M) c7)), (14, (.int .i64 (p.1 : Int)))]) (fun _ => _) (fun p => (b2, _) :: (b1, _) :: (gt p.2 (exC5 M C (lst nj (ptX js)) p.1) ++ ([]))) (fun p => cellN M - p.1) (0, none) ⟨Nat.zero_le _, gok.none 1⟩ ⟨rfl, rfl, rfl, rfl, rfl, rfl, rfl, rfl, rfl, rfl, trivial⟩ (fun w9 hs => (by rw [show gt none (exC5 M C (lst nj (ptX js)) 0) = [] from rfl, List.nil_append]; exact hs)) (fun p hF2 => ?_)
    obtain ⟨hpx, hgp⟩ := hF2
    refine ac_seq (ac_seq (ac_region ?_))
    refine al_p (q_move rfl) (al_p (q_move rfl) (al_p (q_lenS rfl Tryz.runUnderlying24) (al_p (q_lss rfl rfl) (al_end (aq_then ?_)))))
    refine ac_cond rfl (fun h3 => ?_) (fun h3 => ?_)
    · have hpn : p.1 < cellN M := by have := of_decide_eq_true h3; omega
      obtain ⟨b71, o71, hA7, hlt7, hget7⟩ := N7.isT.2 (by omega)
      have hx7 := lst_get (cellP M) hpn
      have g1 := flS_bd hf hX ht (cellP M p.1)
      have g3 := exS_bd hf hX ht (n := p.1) (by omega)
      have g4 := exA_bd hf hX ht p.1
      refine ac_skip (aq_then (ac_seq (ac_block (ac_seq ?_))))
      refine ac_drawF 11 (.s (.s .z)) (by kernel_rfl) (by kernel_rfl) ?_
      refine ah_t 0 (fun w9 hs => (hs.front (.s (.s (.z))))) rfl rfl (by kernel_rfl) (q_loadAll (i := 1) rfl rfl Tryz.isAgg29 Tryz.sizeOf29 rfl) (ah_t 1 (fun w9 hs => (hs.front (.s (.s (.z))))) rfl rfl (by kernel_rfl) (q_loadAll (i := 0) rfl rfl Tryz.isAgg32 Tryz.sizeOf32 rfl) (ah_t 2 (fun w9 hs => (hs.front (.s (.s (.z))))) rfl rfl (by kernel_rfl) (q_move rfl) (ah_t 3 (fun w9 hs => (hs.front (.s (.s (.z))))) rfl rfl (by kernel_rfl) (q_move rfl) (ah_t 4 (fun w9 hs => (hs.front (.s (.s (.z))))) rfl rfl (by kernel_rfl) (q_move rfl) ?_))))
      refine ah_t 5 (fun w9 hs => (hs.front (.s (.s (.z))))) rfl rfl (by kernel_rfl) (q_indexAddrA (i := p.1) (o71 + p.1 * 2 + 0) hA7 rfl rfl rfl (by omega) Tryz.runUnderlying24 Tryz.sizeOf36 rfl) (ah_t 6 (fun w9 hs => (hs.front (.s (.s (.z))))) rfl rfl (by kernel_rfl) (q_loadXs (PointD.cells (cellP M p.1)) rfl Tryz.isAgg36 Tryz.sizeOf36 (fun w9 hs j9 v9 h9 => by rw [addr_add]; exact (cell_blkx ((hs.snap _ _ (.head _)).2.2.2.1 b71 (N7.new _ _ hA7) hlt7)).trans ((hget7 p.1 _ hx7) j9 v9 h9)) rfl) (ah_t 8 (fun w9 hs => (hs.front (.s (.s (.z))))) rfl rfl (by kernel_rfl) (q_move rfl) (ah_one 7 rfl (by kernel_rfl) (fun hok2 hcl2 => ?_))))
      refine al_call Tryz.call80 (.cons rfl (.cons rfl (.cons rfl (.cons rfl .nil)))) rfl rfl (fun w3 hs3 => ?_)
      refine (rat5_any R M Q C J nj cj js (cellP M p.1) t _ (hM.below hs3.below) (hC.below hs3.below) (hJ.below hs3.below) hf hn ht hb).mono ?_
      rintro e u3 ⟨rfl, hb_3⟩
      refine ⟨_, rfl, hb_3, ?_⟩
      clear hs3
      refine al_end (ah_back hok2 hcl2 (fun w9 hs => ((hs.fewer 1 rfl).front (.s (.s (.z))))) ?_)
      refine ah_t 9 (fun w9 hs => ((hs.fewer 1 rfl).front (.s (.s (.z))))) rfl rfl (by kernel_rfl) (q_sub rfl rfl (by omega)) (ah_one 10 rfl (by kernel_rfl) (fun hok3 hcl3 => ?_))
      refine al_call Tryz.call81 (.cons rfl (.cons rfl .nil)) rfl rfl (fun w4 hs4 => ?_)
      refine (rmost_v (show max 0 ((flS M C (lst nj (ptX js)) (cellP M p.1)).lo - tpJ (fun k => (flS M C (lst nj (ptX js)) (limP M k)).lo) k) = (exA M C (lst nj (ptX js)) p.1).lo from by rw [hbd, ← bdS_pt hn]; rfl) _).mono ?_
      rintro e u4 ⟨rfl, hb_4⟩
      refine ⟨_, rfl, hb_4, ?_⟩
      clear hs4
      refine al_end (ah_back hok3 hcl3 (fun w9 hs => ((hs.fewer 2 rfl).front (.s (.s (.z))))) ?_)
      refine ah_t 11 (fun w9 hs => ((hs.fewer 2 rfl).front (.s (.s (.z))))) rfl rfl (by kernel_rfl) (q_assign rfl) (ah_done (by kernel_rfl) ?_)
      refine aq_then (ac_seq (ac_region ?_))
      refine al_p (q_move rfl) (al_p (q_move rfl) (al_new (fun b => .slice (some ⟨b, 0, none⟩) 1 1) (r_buildSlice (.cons rfl .nil) (erb_bs_int_1_0_ _ rfl)) rfl rfl rfl ?_))
      intro b3
      refine al_grow (z := 1) (bytes := 8) (zv := (.int .i64 0)) (o := p.2) (cs := (exC5 M C (lst nj (ptX js)) p.1)) (vs := [.int .i64 (exA M C (lst nj (ptX js)) p.1).lo]) rfl rfl (.s (.s (.s (.z)))) hgp (Sor.box (j := 0) rfl rfl rfl) Tryz.underlying30 (by kernel_rfl) rfl (by omega) (by decide) rfl rfl (fun o_1 g_1 => ?_)
      refine ⟨_, (.s (.s (.s (.z)))), ?_⟩
      refine al_p (q_assign rfl) (al_end (aq_then ?_))
      refine aq_keepL [2, 3, 4, 6, 7, 8, 11, 12, 13, 14, 15, 42, 43, 44, 45, 48, 49, 50, 51, 52, 53, 54, 55, 56, 57, 58, 59, 60, 61, 62] (.cons rfl (.cons rfl (.cons rfl (.cons rfl (.cons rfl (.cons rfl (.cons rfl (.cons rfl (.cons rfl (.cons rfl (.cons rfl (.cons rfl (.cons rfl (.cons rfl (.cons rfl (.cons rfl (.cons rfl (.cons rfl (.cons rfl (.cons rfl (.cons rfl (.cons rfl (.cons rfl (.cons rfl (.cons rfl (.cons rfl (.cons rfl (.cons rfl (.cons rfl (.cons rfl .nil)))))))))))))))))))))))))))))) ?_
      refine ac_region (al_p (q_move rfl) (al_p (q_move rfl) ?_))
      refine al_p (q_add rfl rfl (by omega)) (al_p (q_assign rfl) (al_end (aq_inN (aq_then ?_))))
      refine ac_region (al_p (q_move rfl) ?_)
      refine al_p (q_add rfl rfl (by omega)) (al_p (q_assign rfl) (al_end (aq_then ?_)))
      skip
      refine aq_round ((p.1 + 1, o_1)) (by simp only; omega) ⟨by simp only; omega, by simp only; rw [exC5_succ]; exact g_1⟩ ⟨rfl, rfl, rfl, rfl, rfl, rfl, rfl, rfl, rfl, rfl, trivial⟩ (fun w9 hs => (by dsimp only; rw [exC5_succ]; exact ((hs.fewer 2 rfl).tail 1 rfl)))
    · have hke : p.1 = cellN M := by have := of_decide_eq_false h3; omega
      refine ac_exit (aq_thenE (aq_thenE (aq_hit (aq_then ?_))))
      refine ac_seq (ac_region ?_)
      refine al_p (q_move rfl) (al_p (q_move rfl) (al_p (q_assign rfl) (al_p (q_assign rfl) (al_end (aq_then ?_)))))
      refine ac_ret (ret2 Tryz.results38 rfl rfl (fun w9 hs => ?_))
      exact ⟨gA p.2, gC p.2, by rw [hke]; rfl, by have h9 := hs.grown (enc := intCells) (o := p.2) (cs := exC5 M C (lst nj (ptX js)) p.1) (zs := lst p.1 (fun k => (exA M C (lst nj (ptX js)) k).lo)) (fun _ => rfl) (fun y hy => by simp [hy]) hgp rfl (lst_length _ _); rw [hke] at h9; exact h9, hs.below⟩
end
section
open Go.RowKit
section
variable {P : Program} {e0 : Cfg} {U : Snaps} {l : Slots} {L : Boxes}
theorem q_shrI {xt yt : TypeId} {ox oy : Operand} {x y v : Int} {ty : TypeId} {pos : String} {af : Array Edge} {g : Option (Nat × Bool)} {dd : Option Nat} (hx : E l ox = some (.int .i64 x)) (hy : E l oy = some (.int .u64 y)) (h0 : 0 ≤ y) (h : x.fdiv (2 ^ (min y.toNat 64)) = v) : Q1 P e0 U l L ⟨dd, .binOp .shr xt ox oy yt, ty, pos, af, g⟩ (.int .i64 v) := by
  intro a w hf hs
  subst h
  simp [execOp, hf.ev hx, hf.ev hy, eqGuard, binOp, Op.shift, show ¬ y < 0 by omega, Bind.bind, Sem.bind, Sem.run, pure, IntKind.bits]
theorem q_andV {xt yt : TypeId} {ox oy : Operand} {x y v : Int} {ty : TypeId} {pos : String} {af : Array Edge} {g : Option (Nat × Bool)} {dd : Option Nat} (hx : E l ox = some (.int .i64 x)) (hy : E l oy = some (.int .i64 y)) (h : land64 x y = v) : Q1 P e0 U l L ⟨dd, .binOp .and xt ox oy yt, ty, pos, af, g⟩ (.int .i64 v) := by
  subst h; exact q_and hx hy
end
theorem land127 {x : Int} (h0 : 0 ≤ x) (h1 : x ≤ 1000000000) : land64 x 127 = x % 128 := by
  obtain ⟨n, rfl⟩ := Int.eq_ofNat_of_zero_le h0
  have h : (BitVec.ofInt 64 (n : Int) &&& BitVec.ofInt 64 127).toNat = n % 128 := by
    rw [BitVec.toNat_and, BitVec.toNat_ofInt, show (BitVec.ofInt 64 127).toNat = 2 ^ 7 - 1 from rfl, Nat.and_two_pow_sub_one_eq_mod]
    omega
  unfold land64
  rw [h, IntKind.wrap_i64]
  omega
def Tt (t : Int) (k : Nat) : Int := if k = 0 then t / 2097152 else if k = 1 then t / 16384 else if k = 2 then t / 128 else t
def Dg (t : Int) (k : Nat) : Int := Tt t (k + 1) % 128
theorem Tt_step {t : Int} {k : Nat} (hk : k < 3) : Tt t (k + 1) = Tt t k * 128 + Dg t k := by
  unfold Dg
  obtain rfl | rfl | rfl : k = 0 ∨ k = 1 ∨ k = 2 := by omega
  all_goals simp only [Tt]; simp; omega
theorem Tt_shr {t : Int} (h : 0 ≤ t) {k : Nat} (hk : k < 3) : t.fdiv (2 ^ (min (7 * (2 - (k : Int))).toNat 64)) = Tt t (k + 1) := by
  rw [Int.fdiv_eq_ediv_of_nonneg _ (Int.le_of_lt (Int.pow_pos (by omega)))]
  obtain rfl | rfl | rfl : k = 0 ∨ k = 1 ∨ k = 2 := by omega
  · rfl
  · rfl
  · show t / 1 = t
    exact Int.ediv_one t
theorem Tt_bd {t : Int} (h : 0 ≤ t ∧ t ≤ 1000000) (k : Nat) : 0 ≤ Tt t k ∧ Tt t k ≤ 1000000 := by
  unfold Tt
  split
  · omega
  · split
    · omega
    · split <;> omega
theorem part_step {s x d T : Int} (hs : 1 ≤ s) : T * x / s * 128 + d * (x / s) + (T * x % s * 128 + d * (x % s)) / s = (T * 128 + d) * x / s ∧ (T * x % s * 128 + d * (x % s)) % s = (T * 128 + d) * x % s := by
  have e1 := Int.mul_ediv_add_emod (T * x) s
  have e2 := Int.mul_ediv_add_emod x s
  have e3 : (T * 128 + d) * x = (T * x % s * 128 + d * (x % s)) + s * (T * x / s * 128 + d * (x / s)) := by
    have f1 : d * x = d * (s * (x / s)) + d * (x % s) := by rw [← Int.mul_add, e2]
    have f2 : d * (s * (x / s)) = s * (d * (x / s)) := by rw [← Int.mul_assoc, Int.mul_comm d s, Int.mul_assoc]
    have f3 : s * (T * x / s * 128) = s * (T * x / s) * 128 := by rw [Int.mul_assoc]
    rw [Int.add_mul, Int.mul_add, f1, f2, f3, Int.mul_assoc T 128 x, Int.mul_comm 128 x, ← Int.mul_assoc T x 128]
    omega
  rw [e3, Int.add_mul_ediv_left _ _ (by omega), Int.add_mul_emod_self_left]
  exact ⟨by omega, rfl⟩
theorem part_all {t x s : Int} (ht : 0 ≤ t ∧ t ≤ 1000000) (hx : 0 ≤ x) (hxs : x ≤ s) (hs : 1 ≤ s ∧ s ≤ 21000000000000000) {k : Nat} (hk : k < 3) :
    land64 (Tt t (k + 1)) 127 = Dg t k ∧ (0 ≤ Dg t k ∧ Dg t k ≤ 127) ∧ (0 ≤ Dg t k * x.tmod s ∧ Dg t k * x.tmod s ≤ 127 * 21000000000000000) ∧ (0 ≤ Dg t k * x.tdiv s ∧ Dg t k * x.tdiv s ≤ 127) ∧ (0 ≤ Tt t k * x / s ∧ Tt t k * x / s ≤ 1000000) ∧ (0 ≤ Tt t k * x % s ∧ Tt t k * x % s < s) ∧ (0 ≤ (Tt t k * x % s * 128 + Dg t k * x.tmod s).tdiv s ∧ (Tt t k * x % s * 128 + Dg t k * x.tmod s).tdiv s ≤ 100000000) ∧
    Tt t k * x / s * 128 + Dg t k * x.tdiv s + (Tt t k * x % s * 128 + Dg t k * x.tmod s).tdiv s = Tt t (k + 1) * x / s ∧ (Tt t k * x % s * 128 + Dg t k * x.tmod s).tmod s = Tt t (k + 1) * x % s := by
  have b0 := Tt_bd ht k
  have b1 := Tt_bd ht (k + 1)
  have d0 : 0 ≤ Dg t k ∧ Dg t k ≤ 127 := by unfold Dg; omega
  have m0 := Int.emod_nonneg x (show s ≠ 0 by omega)
  have m1 := Int.emod_lt_of_pos x (show 0 < s by omega)
  have v0 := Int.ediv_nonneg hx (show 0 ≤ s by omega)
  have v1 : x / s ≤ 1 := Int.ediv_le_of_le_mul (by omega) (by omega)
  have p1 := mulN_bd d0 (show 0 ≤ x % s ∧ x % s ≤ 21000000000000000 by omega)
  have p2 := mulN_bd d0 (show 0 ≤ x / s ∧ x / s ≤ 1 by omega)
  have r0 := Int.emod_nonneg (Tt t k * x) (show s ≠ 0 by omega)
  have r1 := Int.emod_lt_of_pos (Tt t k * x) (show 0 < s by omega)
  have w0 : 0 ≤ Tt t k * x := Int.mul_nonneg b0.1 hx
  have q0 := Int.ediv_nonneg w0 (show 0 ≤ s by omega)
  have q1 : Tt t k * x / s ≤ Tt t k := Int.ediv_le_of_le_mul (by omega) (Int.mul_le_mul_of_nonneg_left hxs b0.1)
  have w1 : 0 ≤ Tt t (k + 1) * x := Int.mul_nonneg b1.1 hx
  have q2 : Tt t (k + 1) * x / s ≤ Tt t (k + 1) := Int.ediv_le_of_le_mul (by omega) (Int.mul_le_mul_of_nonneg_left hxs b1.1)
  have ps := part_step (s := s) (x := x) (d := Dg t k) (T := Tt t k) hs.1
  rw [← Tt_step hk] at ps
  have hl : 0 ≤ Tt t k * x % s * 128 + Dg t k * (x % s) := by omega
  have l0 := Int.ediv_nonneg hl (show 0 ≤ s by omega)
  rw [Int.tdiv_eq_ediv_of_nonneg hx, Int.tmod_eq_emod_of_nonneg hx, Int.tdiv_eq_ediv_of_nonneg hl, Int.tmod_eq_emod_of_nonneg hl]
  exact ⟨land127 b1.1 (by omega), d0, ⟨p1.1, by omega⟩, ⟨p2.1, by omega⟩, ⟨q0, by omega⟩, ⟨r0, r1⟩, ⟨l0, by omega⟩, ps.1, ps.2⟩
set_option maxRecDepth 100000 in
theorem rPart_any (t x s : Int) (w : World) (ht : 0 ≤ t ∧ t ≤ 1000000) (hx : 0 ≤ x) (hxs : x ≤ s) (hsb : 1 ≤ s ∧ s ≤ 21000000000000000) : Calls Tryz.prog 120 #[(.int .i64 t), (.int .i64 x), (.int .i64 s)] w (Ret (.tuple #[.int .i64 (t * x / s), .bool (decide (0 < t * x % s))]) w) := by
  have h00 : Tt t 0 = 0 := by simp only [Tt]; simp; omega
  refine calls_ax (vs := [(.int .i64 t), (.int .i64 x), (.int .i64 s)]) Tryz.func120 rfl rfl ?_
  refine ac_seq (ac_region ?_)
  refine al_p (q_assign rfl) (al_p (q_assign rfl) (al_end (aq_then ?_)))
  refine ac_seq (ac_region ?_)
  refine al_p (q_assign rfl) (al_p (q_assign rfl) (al_end (aq_then ?_)))
  refine ac_seq (ac_seq (ac_region ?_))
  refine al_p (q_assign rfl) (al_end (aq_then ?_))
  refine ac_block ?_
  refine ac_loop (β := Nat) (fun k => k ≤ 3) (fun k => [(0, (.int .i64 t)), (1, (.int .i64 x)), (2, (.int .i64 s)), (6, (.int .i64 0)), (7, (.bool false)), (8, (.int .i64 (Tt t k * x / s))), (9, (.int .i64 (Tt t k * x % s))), (10, (.int .i64 (2 - (k : Int))))]) (fun _ => _) (fun k => []) (fun k => 3 - k) 0 (by omega) ⟨rfl, rfl, rfl, rfl, rfl, (by rw [h00, Int.zero_mul, Int.zero_ediv]; rfl), (by rw [h00, Int.zero_mul, Int.zero_emod]; rfl), (by simp; rfl), trivial⟩ (fun w9 hs => hs) (fun k hF1 => ?_)
  refine ac_seq (ac_seq (ac_region ?_))
  refine al_p (q_move rfl) (al_p (q_geq rfl rfl) (al_end (aq_then ?_)))
  refine ac_cond rfl (fun h1 => ?_) (fun h1 => ?_)
  · have hk3 : k < 3 := by have := of_decide_eq_true h1; omega
    obtain ⟨p0, p1, p2, p3, p4, p5, p6, hq, hr⟩ := part_all ht hx hxs hsb hk3
    refine ac_skip (aq_then (ac_seq (ac_block (ac_seq (ac_region ?_)))))
    refine al_p (q_move rfl) (al_p (q_move rfl) ?_)
    refine al_p (q_mul rfl rfl (by omega)) ?_
    refine al_p (q_convI rfl Tryz.underlying3 Tryz.underlying129 (by go_arith)) ?_
    refine al_p (q_shrI rfl rfl (by omega) (Tt_shr ht.1 (by omega))) (al_p (q_andV rfl rfl (p0)) (al_p (q_assign rfl) (al_end (aq_then ?_))))
    refine ac_seq (ac_region ?_)
    refine al_p (q_move rfl) ?_
    refine al_p (q_mul rfl rfl (by omega)) (al_p (q_move rfl) (al_p (q_move rfl) (al_p (q_move rfl) ?_)))
    refine al_p (q_rem rfl rfl (by omega)) ?_
    refine al_p (q_mul rfl rfl (by omega)) ?_
    refine al_p (q_add rfl rfl (by omega)) (al_p (q_assign rfl) (al_end (aq_then ?_)))
    refine ac_seq (ac_draw 12 (by kernel_rfl) (by kernel_rfl) ?_)
    refine ah_t 0 (fun w9 hs => hs) rfl rfl (by kernel_rfl) (q_move rfl) ?_
    refine ah_t 1 (fun w9 hs => hs) rfl rfl (by kernel_rfl) (q_mul rfl rfl (by omega)) (ah_t 2 (fun w9 hs => hs) rfl rfl (by kernel_rfl) (q_move rfl) (ah_t 3 (fun w9 hs => hs) rfl rfl (by kernel_rfl) (q_move rfl) (ah_t 4 (fun w9 hs => hs) rfl rfl (by kernel_rfl) (q_move rfl) ?_)))
    refine ah_t 5 (fun w9 hs => hs) rfl rfl (by kernel_rfl) (q_quo rfl rfl (by omega)) ?_
    refine ah_t 6 (fun w9 hs => hs) rfl rfl (by kernel_rfl) (q_mul rfl rfl (by omega)) ?_
    refine ah_t 7 (fun w9 hs => hs) rfl rfl (by kernel_rfl) (q_add rfl rfl (by omega)) (ah_t 8 (fun w9 hs => hs) rfl rfl (by kernel_rfl) (q_move rfl) (ah_t 9 (fun w9 hs => hs) rfl rfl (by kernel_rfl) (q_move rfl) ?_))
    refine ah_t 10 (fun w9 hs => hs) rfl rfl (by kernel_rfl) (q_quo rfl rfl (by omega)) ?_
    refine ah_t 11 (fun w9 hs => hs) rfl rfl (by kernel_rfl) (q_add rfl rfl (by omega)) (ah_t 12 (fun w9 hs => hs) rfl rfl (by kernel_rfl) (q_assign rfl) (ah_done (by kernel_rfl) ?_))
    refine aq_then (ac_region (al_p (q_move rfl) (al_p (q_move rfl) ?_)))
    refine al_p (q_rem rfl rfl (by omega)) (al_p (q_assign rfl) (al_end (aq_inN (aq_then ?_))))
    refine ac_region (al_p (q_move rfl) ?_)
    refine al_p (q_sub rfl rfl (by omega)) (al_p (q_assign rfl) (al_end (aq_then ?_)))
    skip
    refine aq_round (k + 1) (by omega) (by omega) ⟨rfl, rfl, rfl, rfl, rfl, (by rw [← hq]; rfl), (by rw [← hr]; rfl), (by show some (Value.int .i64 _) = some (Value.int .i64 _); rw [show (2 : Int) - (k : Int) - 1 = 2 - ((k + 1 : Nat) : Int) by omega]), trivial⟩ (fun w9 hs => hs)
  · have hke : k = 3 := by have := of_decide_eq_false h1; omega
    have hT : Tt t k = t := by rw [hke]; rfl
    refine ac_exit (aq_thenE (aq_thenE (aq_hit (aq_then ?_))))
    refine ac_seq (ac_region ?_)
    refine al_p (q_move rfl) (al_p (q_move rfl) (al_p (q_gtr rfl rfl) (al_p (q_assign rfl) (al_p (q_assign rfl) ?_))))
    refine al_end (aq_then ?_)
    refine ac_ret (ret2 Tryz.results120 rfl rfl (fun w9 hs => ?_))
    exact ⟨by rw [hT], hs.below⟩
set_option maxRecDepth 100000 in
theorem rup_any (t x s : Int) (w : World) (ht : 0 ≤ t ∧ t ≤ 1000000) (hx : 0 ≤ x) (hxs : x ≤ s) (hsb : 1 ≤ s ∧ s ≤ 21000000000000000) : Calls Tryz.prog 121 #[(.int .i64 t), (.int .i64 x), (.int .i64 s)] w (Ret (.int .i64 (upQ (t * x) s)) w) := by
  have w0 : 0 ≤ t * x := Int.mul_nonneg ht.1 hx
  have q0 := Int.ediv_nonneg w0 (show 0 ≤ s by omega)
  have q1 : t * x / s ≤ t := Int.ediv_le_of_le_mul (by omega) (Int.mul_le_mul_of_nonneg_left hxs ht.1)
  refine calls_ax (vs := [(.int .i64 t), (.int .i64 x), (.int .i64 s)]) Tryz.func121 rfl rfl ?_
  refine ac_seq (ac_region ?_)
  refine al_p (q_assign rfl) (al_end (aq_then ?_))
  refine ac_seq (ac_region ?_)
  refine al_p (q_move rfl) (al_p (q_move rfl) (al_p (q_move rfl) (al_call Tryz.call120 (.cons rfl (.cons rfl (.cons rfl .nil))) rfl rfl (fun w1 hs1 => ?_))))
  refine (rPart_any t x s _ ht hx hxs hsb).mono ?_
  rintro e u1 ⟨rfl, hb_1⟩
  refine ⟨_, rfl, hb_1, ?_⟩
  clear hs1
  refine al_p (q_move rfl) (al_p (q_extract rfl rfl) (al_p (q_extract rfl rfl) (al_p (q_assign rfl) (al_p (q_assign rfl) ?_))))
  refine al_end (aq_then ?_)
  refine ac_seq (ac_seq (ac_region ?_))
  refine al_p (q_move rfl) (al_end (aq_then ?_))
  refine ac_cond rfl (fun h1 => ?_) (fun h1 => ?_)
  · have hU : upQ (t * x) s = t * x / s + 1 := if_pos (of_decide_eq_true h1)
    refine ac_region (al_p (q_move rfl) ?_)
    refine al_p (q_add rfl rfl (by omega)) (al_p (q_assign rfl) (al_end (aq_then ?_)))
    refine ac_seq (ac_region ?_)
    refine al_p (q_move rfl) (al_p (q_assign rfl) (al_end (aq_then ?_)))
    refine ac_ret (ret1 Tryz.results121 rfl (fun w9 hs => ?_))
    rw [hU]; exact ⟨rfl, hs.below⟩
  · have hU : upQ (t * x) s = t * x / s := if_neg (of_decide_eq_false h1)
    refine ac_skip (aq_then (ac_seq (ac_region ?_)))
    refine al_p (q_move rfl) (al_p (q_assign rfl) (al_end (aq_then ?_)))
    refine ac_ret (ret1 Tryz.results121 rfl (fun w9 hs => ?_))
    rw [hU]; exact ⟨rfl, hs.below⟩
end
end Go.Proofs.YtogcjgjhmlifgaaGreat
