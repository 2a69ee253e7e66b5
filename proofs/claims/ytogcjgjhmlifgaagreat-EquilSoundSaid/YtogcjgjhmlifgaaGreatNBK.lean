import Derived.Test.YtogcjgjhmlifgaaGreatNBJ
import Derived.Test.YtogcjgjhmlifgaaGreatRows
import Derived.KernelRfl
import Derived.Laws.StructEq
namespace Go.Proofs.YtogcjgjhmlifgaaGreat
set_option linter.unusedVariables false
set_option linter.unusedSimpArgs false
section
open Go.RowKit
set_option maxRecDepth 100000 in
theorem inrange_any (J : Option Addr) (nj cj : Nat) (js : List Int) (w : World) (hJ : IsT 1 intCells w J nj js) (hn : nj ≤ 1000) (hb : ∀ k, k < nj → 0 ≤ iA js k ∧ iA js k ≤ 1000000) : Calls Tryz.prog 144 #[(.slice J nj cj), (.func (.func 163) #[] #[])] w (Ret (.bool false) w) := by
  have n1 := hJ.1
  refine calls_ax (vs := [(.slice J nj cj), (.func (.func 163) #[] #[])]) Tryz.func144 rfl rfl ?_
  refine ac_seq (ac_region ?_)
  refine al_p (q_assign rfl) (al_end (aq_then ?_))
  refine ac_seq (ac_region ?_)
  refine al_p (q_move rfl) (al_p (q_move rfl) (al_inl Tryz.call172 (.cons rfl (.cons rfl .nil)) rfl rfl Tryz.func172 rfl rfl ?_))
  refine ac_seq (ac_region ?_)
  refine al_p (q_assign rfl) (al_end (aq_then ?_))
  refine ac_seq (ac_seq (ac_region ?_))
  refine al_p (q_move rfl) (al_p (q_lenS rfl Tryz.runUnderlying30) (al_p (q_move rfl) (al_end (aq_then ?_))))
  refine ac_block ?_
  refine ac_loop (β := Nat) (fun k => k ≤ nj) (fun k => [(0, (.slice J nj cj)), (1, (.func (.func 163) #[] #[])), (4, (.int .i64 0)), (7, (.int .i64 (nj : Int))), (8, (.int .i64 (k : Int)))]) (fun _ => _) (fun k => []) (fun k => nj - k) 0 (by omega) ⟨rfl, rfl, rfl, rfl, rfl, trivial⟩ (fun w9 hs => hs) (fun k hF1 => ?_)
  refine ac_seq (ac_region ?_)
  refine al_p (q_lss rfl rfl) (al_end (aq_then ?_))
  refine ac_seq ?_
  refine ac_cond rfl (fun h1 => ?_) (fun h1 => ?_)
  · have hkn : k < nj := by have := of_decide_eq_true h1; omega
    obtain ⟨v1, v2⟩ := hb k hkn
    obtain ⟨b11, o11, hA1, hlt1, hget1⟩ := hJ.2 (by omega)
    have hx1 := iA_get (l := js) (k := k) (by omega)
    refine ac_skip (aq_then (ac_seq (ac_block (ac_seq (ac_region ?_)))))
    refine al_p (q_move rfl) (al_p (q_assign rfl) (al_end (aq_then ?_)))
    refine ac_seq (ac_region ?_)
    refine al_p (q_move rfl) (al_p (q_move rfl) (al_p (q_move rfl) ?_))
    refine al_p (q_indexAddrA (i := k) (o11 + k * 1 + 0) hA1 rfl rfl rfl (by omega) Tryz.runUnderlying30 Tryz.sizeOf3 rfl) (al_p (q_loadX rfl Tryz.isAgg3 (fun w9 hs => (hs.below.cell (p := ⟨_, _, none⟩) hlt1).trans ((hget1 k _ hx1) 0 _ rfl))) (al_inlV (fi := []) (ca := []) rfl Tryz.call163 (.cons rfl .nil) rfl rfl Tryz.func163 rfl rfl ?_))
    refine ac_seq (ac_region ?_)
    refine al_p (q_assign rfl) (al_end (aq_then ?_))
    refine ac_seq (ac_region ?_)
    refine al_p (q_move rfl) (al_call Tryz.call46 (.cons rfl (.cons rfl (.cons rfl .nil))) rfl rfl (fun w1 hs1 => ?_))
    refine (wth_yes (iA js k) 0 1000000 _ (by omega) (by omega)).mono ?_
    rintro e u1 ⟨rfl, hb_1⟩
    refine ⟨_, rfl, hb_1, ?_⟩
    clear hs1
    refine al_p (q_not rfl) (al_p (q_assign rfl) (al_end (aq_then ?_)))
    refine ac_ret (retI Tryz.results163 (.tmp rfl .nil) .one ?_)
    refine al_end (aq_then ?_)
    refine ac_condF rfl (ac_skip (aq_inN (aq_then (ac_region ?_))))
    refine al_p (q_add rfl rfl (by omega)) (al_p (q_move rfl) (al_end (aq_then ?_)))
    skip
    refine aq_round (k + 1) (by omega) (by omega) ⟨rfl, rfl, rfl, rfl, rfl, trivial⟩ (fun w9 hs => (hs.fewer 1 rfl))
  · skip
    refine ac_exit (aq_thenE (aq_thenE (aq_hit (aq_then ?_))))
    refine ac_seq (ac_region ?_)
    refine al_p (q_assign rfl) (al_end (aq_then ?_))
    refine ac_ret (retI Tryz.results172 (.tmp rfl .nil) .one ?_)
    refine al_p (q_geq rfl rfl) (al_p (q_assign rfl) (al_end (aq_then ?_)))
    refine ac_ret (ret1 Tryz.results144 rfl (fun w9 hs => ?_))
    exact ⟨rfl, hs.below⟩
theorem pcellsK_any (R : MachR) (M : MachD) (n : Nat) (w : World) (hM : IsM w R M) (hc : checkC M = 0) (hn : n = cellN M) : Calls Tryz.prog 93 #[.agg (mCs R M).toArray] w (Ret (.int .i64 (n : Int)) w) := by subst hn; exact pcells_any R M w hM hc
theorem pvalidY (R : MachR) (M : MachD) (Q : CurR) (C : CurD) (w : World) (hM : IsM w R M) (hC : IsC w Q C) (hv : validC M C = true) : Calls Tryz.prog 42 #[.agg (mCs R M).toArray, .agg (cCs Q).toArray] w (Ret (.bool true) w) := by
  have h := pvalid_any R M Q C w hM hC
  rwa [hv] at h
set_option maxRecDepth 100000 in
theorem numbers_any (R : MachR) (M : MachD) (J : Option Addr) (nj cj : Nat) (js : List Int) (w : World) (hM : IsM w R M) (hJ : IsT 1 intCells w J nj js) (hc : checkC M = 0) (hn : nj = cellN M) (hb : ∀ k, k < nj → 0 ≤ iA js k ∧ iA js k ≤ 1000000) : Calls Tryz.prog 126 #[(.agg (mCs R M).toArray), (.slice J nj cj)] w (Ret (.bool true) w) := by
  have hcn := cellN_eq hc
  refine calls_ax (vs := [(.agg (mCs R M).toArray), (.slice J nj cj)]) Tryz.func126 rfl rfl ?_
  refine ac_seq (ac_region ?_)
  refine al_new (fun b => .pointer (some ⟨b, 0, none⟩)) (r_box rfl rfl) rfl rfl rfl ?_
  intro b1
  refine al_p (q_assign rfl) (al_end (aq_then ?_))
  refine ac_seq (ac_region ?_)
  refine al_p (q_move rfl) (al_p (q_lenS rfl Tryz.runUnderlying30) (al_p (q_loadAll (i := 0) rfl rfl Tryz.isAgg29 Tryz.sizeOf29 rfl) (al_call Tryz.call93 (.cons rfl .nil) rfl rfl (fun w1 hs1 => ?_))))
  refine (pcellsK_any R M nj _ (hM.below hs1.below) hc hn).mono ?_
  rintro e u1 ⟨rfl, hb_1⟩
  refine ⟨_, rfl, hb_1, ?_⟩
  clear hs1
  refine al_p (q_same (v' := .bool true) (q_eql rfl rfl) (by simp)) (al_p (q_move rfl) (al_p (q_move rfl) (al_call Tryz.call144 (.cons rfl (.cons rfl .nil)) rfl rfl (fun w2 hs2 => ?_))))
  refine (inrange_any J nj cj js _ (hJ.below hs2.below) (by omega) hb).mono ?_
  rintro e u2 ⟨rfl, hb_2⟩
  refine ⟨_, rfl, hb_2, ?_⟩
  clear hs2
  refine al_p (q_not rfl) (al_p (q_pickT rfl rfl) (al_p (q_assign rfl) (al_end (aq_then ?_))))
  refine ac_ret (ret1 Tryz.results126 rfl (fun w9 hs => ?_))
  exact ⟨rfl, hs.below⟩
set_option maxRecDepth 100000 in
theorem chknum_any (R : MachR) (M : MachD) (Q : CurR) (C : CurD) (J : Option Addr) (nj cj : Nat) (js : List Int) (t : Int) (w : World) (hM : IsM w R M) (hC : IsC w Q C) (hJ : IsT 1 intCells w J nj js) (hv : validC M C = true) (hn : nj = cellN M) (t0 : 1 ≤ t) (t1 : t ≤ 1000000) (hb : ∀ k, k < nj → 0 ≤ iA js k ∧ iA js k ≤ 1000000) : Calls Tryz.prog 83 #[(.agg (mCs R M).toArray), (.agg (cCs Q).toArray), (.int .i64 t), (.slice J nj cj)] w (Ret (.int .i64 0) w) := by
  refine calls_ax (vs := [(.agg (mCs R M).toArray), (.agg (cCs Q).toArray), (.int .i64 t), (.slice J nj cj)]) Tryz.func83 rfl rfl ?_
  refine ac_seq (ac_region ?_)
  refine al_new (fun b => .pointer (some ⟨b, 0, none⟩)) (r_box rfl rfl) rfl rfl rfl ?_
  intro b1
  refine al_new (fun b => .pointer (some ⟨b, 0, none⟩)) (r_box rfl rfl) rfl rfl rfl ?_
  intro b2
  refine al_p (q_assign rfl) (al_end (aq_then ?_))
  refine ac_seq (ac_region ?_)
  refine al_p (q_loadAll (i := 1) rfl rfl Tryz.isAgg29 Tryz.sizeOf29 rfl) (al_p (q_loadAll (i := 0) rfl rfl Tryz.isAgg32 Tryz.sizeOf32 rfl) (al_call Tryz.call42 (.cons rfl (.cons rfl .nil)) rfl rfl (fun w1 hs1 => ?_)))
  refine (pvalidY R M Q C _ (hM.below hs1.below) (hC.below hs1.below) hv).mono ?_
  rintro e u1 ⟨rfl, hb_1⟩
  refine ⟨_, rfl, hb_1, ?_⟩
  clear hs1
  refine al_p (q_move rfl) (al_p (q_loadAll (i := 1) rfl rfl Tryz.isAgg29 Tryz.sizeOf29 rfl) (al_p (q_move rfl) (al_call Tryz.call126 (.cons rfl (.cons rfl .nil)) rfl rfl (fun w2 hs2 => ?_))))
  refine (numbers_any R M J nj cj js _ (hM.below hs2.below) (hJ.below hs2.below) (fit2_iff.1 hv).check hn hb).mono ?_
  rintro e u2 ⟨rfl, hb_2⟩
  refine ⟨_, rfl, hb_2, ?_⟩
  clear hs2
  refine al_p (q_pickT rfl rfl) (al_p (q_move rfl) (al_call Tryz.call47 (.cons rfl .nil) rfl rfl (fun w3 hs3 => ?_)))
  refine (tot_yes t _ t0 t1).mono ?_
  rintro e u3 ⟨rfl, hb_3⟩
  refine ⟨_, rfl, hb_3, ?_⟩
  clear hs3
  refine al_call Tryz.call50 (.cons rfl (.cons rfl .nil)) rfl rfl (fun w4 hs4 => ?_)
  refine (chk_yes _).mono ?_
  rintro e u4 ⟨rfl, hb_4⟩
  refine ⟨_, rfl, hb_4, ?_⟩
  clear hs4
  refine al_p (q_assign rfl) (al_end (aq_then ?_))
  refine ac_ret (ret1 Tryz.results83 rfl (fun w9 hs => ?_))
  exact ⟨rfl, hs.below⟩
theorem chkboxY (R : MachR) (M : MachD) (Q : CurR) (C : CurD) (X : Option Addr) (nx cx : Nat) (xs : List SpanD) (t : Int) (w : World) (hM : IsM w R M) (hC : IsC w Q C) (hS : IsT 2 SpanD.cells w X nx xs) (hv : validC M C = true) (hb : boxB M t xs = true) (t0 : 1 ≤ t) (t1 : t ≤ 1000000) : Calls Tryz.prog 59 #[.agg (mCs R M).toArray, .agg (cCs Q).toArray, .int .i64 t, .slice X nx cx] w (Ret (.int .i64 0) w) := by
  have h := checkBox_any R M Q C w hM hC X nx cx xs t hS
  rwa [hv, hb, wthn_iff.2 ⟨t0, t1⟩] at h
theorem ptX_at (js : List Int) {n k : Nat} (hk : k < n) : spA (lst n (ptX js)) k = ⟨iA js k, iA js k⟩ := spA_of (lst_get _ hk)
theorem ptX_fit {M : MachD} {t : Int} {js : List Int} {n : Nat} (hc : checkC M = 0) (hn : n = cellN M) (hb : ∀ k, k < n → 0 ≤ iA js k ∧ iA js k ≤ t) : FitX M t (lst n (ptX js)) :=
  ⟨hc, by rw [lst_length, hn], fun a ha => by
    obtain ⟨k, hk, rfl⟩ := List.mem_map.1 ha
    have := hb k (List.mem_range.1 hk)
    exact ⟨this.1, Int.le_refl _, this.2⟩⟩
set_option maxRecDepth 100000 in
theorem imbox_any (R : MachR) (M : MachD) (Q : CurR) (C : CurD) (X : Option Addr) (nx cx : Nat) (xs : List SpanD) (t : Int) (w : World) (hM : IsM w R M) (hC : IsC w Q C) (hS : IsT 2 SpanD.cells w X nx xs) (hv : validC M C = true) (hb : boxB M t xs = true) (t0 : 1 ≤ t) (t1 : t ≤ 1000000) : Calls Tryz.prog 39 #[(.agg (mCs R M).toArray), (.agg (cCs Q).toArray), (.int .i64 t), (.slice X nx cx)] w (OutT 2 SpanD.cells w (imE M C xs) (imR M C t xs)) := by
  have hf := fit2_iff.1 hv
  have hX := boxB_iff.1 hb
  refine calls_ax (vs := [(.agg (mCs R M).toArray), (.agg (cCs Q).toArray), (.int .i64 t), (.slice X nx cx)]) Tryz.func39 rfl rfl ?_
  refine ac_seq (ac_region ?_)
  refine al_new (fun b => .pointer (some ⟨b, 0, none⟩)) (r_box rfl rfl) rfl rfl rfl ?_
  intro b1
  refine al_new (fun b => .pointer (some ⟨b, 0, none⟩)) (r_box rfl rfl) rfl rfl rfl ?_
  intro b2
  refine al_p (q_assign rfl) (al_p (q_assign rfl) (al_end (aq_then ?_)))
  refine ac_seq (ac_seq (ac_region ?_))
  refine al_p (q_loadAll (i := 1) rfl rfl Tryz.isAgg29 Tryz.sizeOf29 rfl) (al_p (q_loadAll (i := 0) rfl rfl Tryz.isAgg32 Tryz.sizeOf32 rfl) (al_p (q_move rfl) (al_p (q_move rfl) (al_call Tryz.call59 (.cons rfl (.cons rfl (.cons rfl (.cons rfl .nil)))) rfl rfl (fun w1 hs1 => ?_)))))
  refine (chkboxY R M Q C X nx cx xs t _ (hM.below hs1.below) (hC.below hs1.below) (hS.below hs1.below) hv hb t0 t1).mono ?_
  rintro e u1 ⟨rfl, hb_1⟩
  refine ⟨_, rfl, hb_1, ?_⟩
  clear hs1
  refine al_p (q_assign rfl) (al_end (aq_then ?_))
  refine ac_seq (ac_region ?_)
  refine al_p (q_move rfl) ?_
  refine al_p (q_same (v' := .bool false) (q_neq rfl rfl) (by simp)) (al_end (aq_then ?_))
  refine ac_condF rfl (ac_skip (aq_then (ac_seq (ac_region ?_))))
  refine al_p (q_loadAll (i := 1) rfl rfl Tryz.isAgg29 Tryz.sizeOf29 rfl) (al_p (q_loadAll (i := 0) rfl rfl Tryz.isAgg32 Tryz.sizeOf32 rfl) (al_call Tryz.call60 (.cons rfl (.cons rfl .nil)) rfl rfl (fun w2 hs2 => ?_)))
  refine (fieldOf_any R M Q C _ (hM.below hs2.below) (hC.below hs2.below) hf).mono ?_
  rintro e u2 ⟨A1, c1, A2, c2, rfl, k1_, k2_, hb_2⟩
  have hc2 := k2_.le.1
  refine ⟨_, rfl, hb_2, ?_⟩
  clear hs2
  refine al_p (q_move rfl) (al_p (q_move rfl) (al_call Tryz.call82 (.cons rfl (.cons rfl (.cons rfl .nil))) rfl rfl (fun w3 hs3 => ?_)))
  refine (image_any M C A1 A2 X c1 c2 nx _ xs t _ hf hX (by omega) t1 (hs3.newT (.head _) k1_) (hs3.newT (.head _) k2_) hc2 (hS.below hs3.below)).mono ?_
  rintro e u3 ⟨A3, n3, c3, rfl, N3, hb_3⟩
  refine ⟨_, rfl, hb_3, ?_⟩
  clear hs3
  refine al_p (q_extract rfl rfl) (al_p (q_extract rfl rfl) (al_p (q_assign rfl) (al_p (q_assign rfl) (al_end (aq_then ?_)))))
  refine ac_ret (ret2 Tryz.results39 rfl rfl (fun w9 hs => ?_))
  exact OutT.ok (hs.newT2 (.head _) N3) hs.below
set_option maxRecDepth 100000 in
theorem imnum_any (R : MachR) (M : MachD) (Q : CurR) (C : CurD) (J : Option Addr) (nj cj : Nat) (js : List Int) (t : Int) (w : World) (hM : IsM w R M) (hC : IsC w Q C) (hJ : IsT 1 intCells w J nj js) (hv : validC M C = true) (hn : nj = cellN M) (t0 : 1 ≤ t) (t1 : t ≤ 1000000) (hb : ∀ k, k < nj → 0 ≤ iA js k ∧ iA js k ≤ t) : Calls Tryz.prog 40 #[(.agg (mCs R M).toArray), (.agg (cCs Q).toArray), (.int .i64 t), (.slice J nj cj)] w (OutT 2 SpanD.cells w (imE M C (lst nj (ptX js))) (imR M C t (lst nj (ptX js)))) := by
  have hf := fit2_iff.1 hv
  have hcn := cellN_eq hf.check
  have hX := ptX_fit (js := js) (n := nj) (t := t) hf.check hn hb
  refine calls_ax (vs := [(.agg (mCs R M).toArray), (.agg (cCs Q).toArray), (.int .i64 t), (.slice J nj cj)]) Tryz.func40 rfl rfl ?_
  refine ac_seq (ac_region ?_)
  refine al_new (fun b => .pointer (some ⟨b, 0, none⟩)) (r_box rfl rfl) rfl rfl rfl ?_
  intro b1
  refine al_new (fun b => .pointer (some ⟨b, 0, none⟩)) (r_box rfl rfl) rfl rfl rfl ?_
  intro b2
  refine al_p (q_assign rfl) (al_p (q_assign rfl) (al_end (aq_then ?_)))
  refine ac_seq (ac_seq (ac_region ?_))
  refine al_p (q_loadAll (i := 1) rfl rfl Tryz.isAgg29 Tryz.sizeOf29 rfl) (al_p (q_loadAll (i := 0) rfl rfl Tryz.isAgg32 Tryz.sizeOf32 rfl) (al_p (q_move rfl) (al_p (q_move rfl) (al_call Tryz.call83 (.cons rfl (.cons rfl (.cons rfl (.cons rfl .nil)))) rfl rfl (fun w1 hs1 => ?_)))))
  refine (chknum_any R M Q C J nj cj js t _ (hM.below hs1.below) (hC.below hs1.below) (hJ.below hs1.below) hv hn t0 t1 (fun k hk => by have := hb k hk; omega)).mono ?_
  rintro e u1 ⟨rfl, hb_1⟩
  refine ⟨_, rfl, hb_1, ?_⟩
  clear hs1
  refine al_p (q_assign rfl) (al_end (aq_then ?_))
  refine ac_seq (ac_region ?_)
  refine al_p (q_move rfl) ?_
  refine al_p (q_same (v' := .bool false) (q_neq rfl rfl) (by simp)) (al_end (aq_then ?_))
  refine ac_condF rfl (ac_skip (aq_then (ac_seq (ac_region ?_))))
  refine al_p (q_loadAll (i := 1) rfl rfl Tryz.isAgg29 Tryz.sizeOf29 rfl) (al_p (q_loadAll (i := 0) rfl rfl Tryz.isAgg32 Tryz.sizeOf32 rfl) (al_call Tryz.call60 (.cons rfl (.cons rfl .nil)) rfl rfl (fun w2 hs2 => ?_)))
  refine (fieldOf_any R M Q C _ (hM.below hs2.below) (hC.below hs2.below) hf).mono ?_
  rintro e u2 ⟨A1, c1, A2, c2, rfl, k1_, k2_, hb_2⟩
  have hc2 := k2_.le.1
  refine ⟨_, rfl, hb_2, ?_⟩
  clear hs2
  refine al_p (q_move rfl) (al_p (q_move rfl) (al_call Tryz.call84 (.cons rfl .nil) rfl rfl (fun w3 hs3 => ?_)))
  refine (points_any J nj cj js _ (hJ.below hs3.below) (by omega)).mono ?_
  rintro e u3 ⟨A4, c4, rfl, N4, hb_3⟩
  refine ⟨_, rfl, hb_3, ?_⟩
  clear hs3
  refine al_call Tryz.call82 (.cons rfl (.cons rfl (.cons rfl .nil))) rfl rfl (fun w4 hs4 => ?_)
  refine (image_any M C A1 A2 A4 c1 c2 nj _ (lst nj (ptX js)) t _ hf hX (by omega) t1 (hs4.newT (.tail _ (.head _)) k1_) (hs4.newT (.tail _ (.head _)) k2_) hc2 (hs4.newT (.head _) N4)).mono ?_
  rintro e u4 ⟨A3, n3, c3, rfl, N3, hb_4⟩
  refine ⟨_, rfl, hb_4, ?_⟩
  clear hs4
  refine al_p (q_extract rfl rfl) (al_p (q_extract rfl rfl) (al_p (q_assign rfl) (al_p (q_assign rfl) (al_end (aq_then ?_)))))
  refine ac_ret (ret2 Tryz.results40 rfl rfl (fun w9 hs => ?_))
  exact OutT.ok (hs.newT2 (.head _) N3) hs.below
end
section
open Go.RowKit
set_option maxRecDepth 100000 in
theorem rat5_any (R : MachR) (M : MachD) (Q : CurR) (C : CurD) (J : Option Addr) (nj cj : Nat) (js : List Int) (p : PointD) (t : Int) (w : World) (hM : IsM w R M) (hC : IsC w Q C) (hJ : IsT 1 intCells w J nj js) (hf : Fit2 M C) (hn : nj = cellN M) (ht : t ≤ 1000000) (hb : ∀ k, k < nj → 0 ≤ iA js k ∧ iA js k ≤ t) : Calls Tryz.prog 80 #[(.agg (mCs R M).toArray), (.agg (cCs Q).toArray), (.slice J nj cj), (.agg #[.int .i64 p.r, .int .i64 p.z])] w (Ret (.int .i64 (flS M C (lst nj (ptX js)) p).lo) w) := by
  have hcn := cellN_eq hf.check
  have n1 := hJ.1
  have hX := ptX_fit (js := js) (n := nj) (t := t) hf.check hn hb
  refine calls_ax (vs := [(.agg (mCs R M).toArray), (.agg (cCs Q).toArray), (.slice J nj cj), (.agg #[.int .i64 p.r, .int .i64 p.z])]) Tryz.func80 rfl rfl ?_
  refine ac_seq (ac_region ?_)
  refine al_new (fun b => .pointer (some ⟨b, 0, none⟩)) (r_box rfl rfl) rfl rfl rfl ?_
  intro b1
  refine al_new (fun b => .pointer (some ⟨b, 0, none⟩)) (r_box rfl rfl) rfl rfl rfl ?_
  intro b2
  refine al_new (fun b => .pointer (some ⟨b, 0, none⟩)) (r_box rfl rfl) rfl rfl rfl ?_
  intro b3
  refine al_p (q_assign rfl) (al_end (aq_then ?_))
  refine ac_seq (ac_region ?_)
  refine al_p (q_loadAll (i := 2) rfl rfl Tryz.isAgg29 Tryz.sizeOf29 rfl) (al_p (q_loadAll (i := 1) rfl rfl Tryz.isAgg32 Tryz.sizeOf32 rfl) (al_p (q_loadAll (i := 0) rfl rfl Tryz.isAgg36 Tryz.sizeOf36 rfl) (al_call Tryz.call45 (.cons rfl (.cons rfl (.cons rfl .nil))) rfl rfl (fun w1 hs1 => ?_))))
  refine (rknown_any R M Q C _ (hM.below hs1.below) (hC.below hs1.below) p hf).mono ?_
  rintro e u1 ⟨rfl, hb_1⟩
  refine ⟨_, rfl, hb_1, ?_⟩
  clear hs1
  refine al_p (q_assign rfl) (al_end (aq_then ?_))
  refine ac_seq (ac_region ?_)
  refine al_p (q_loadAll (i := 2) rfl rfl Tryz.isAgg29 Tryz.sizeOf29 rfl) (al_p (q_loadAll (i := 0) rfl rfl Tryz.isAgg36 Tryz.sizeOf36 rfl) (al_call Tryz.call103 (.cons rfl (.cons rfl .nil)) rfl rfl (fun w2 hs2 => ?_)))
  refine (rweights_any R M p _ (hM.below hs2.below) hf.check).mono ?_
  rintro e u2 ⟨A7, n7, c7, rfl, N7, hb_2⟩
  have n7e := N7.isT.1
  rw [lst_length] at n7e
  refine ⟨_, rfl, hb_2, ?_⟩
  clear hs2
  refine al_p (q_assign rfl) (al_end (aq_then ?_))
  refine ac_seq (ac_seq (ac_region ?_))
  refine al_p (q_assign rfl) (al_end (aq_then ?_))
  refine ac_block ?_
  refine ac_loop (β := Nat) (fun k => k ≤ nj) (fun k => [(2, (.slice J nj cj)), (8, (.int .i64 0)), (9, (.int .i64 (loT M C p (lst nj (ptX js)) k))), (10, (.slice A7 n7 c7)), (11, (.int .i64 (k : Int)))]) (fun _ => _) (fun k => [(b3, _), (b2, _), (b1, _)]) (fun k => nj - k) 0 (by omega) ⟨rfl, rfl, (by rw [show loT M C p (lst nj (ptX js)) 0 = knP M C p by simp [loT, dotTo]]; rfl), rfl, rfl, trivial⟩ (fun w9 hs => hs) (fun k hF1 => ?_)
  refine ac_seq (ac_seq (ac_region ?_))
  refine al_p (q_move rfl) (al_p (q_move rfl) (al_p (q_lenS rfl Tryz.runUnderlying30) (al_p (q_lss rfl rfl) (al_end (aq_then ?_)))))
  refine ac_cond rfl (fun h1 => ?_) (fun h1 => ?_)
  · have hkn : k < nj := by have := of_decide_eq_true h1; omega
    obtain ⟨b11, o11, hA1, hlt1, hget1⟩ := hJ.2 (by omega)
    have hx1 := iA_get (l := js) (k := k) (by omega)
    obtain ⟨b71, o71, hA7, hlt7, hget7⟩ := N7.isT.2 (by omega)
    have hx7 := lst_get (wgt M p) (n := cellN M) (k := k) (by omega)
    have hpk := ptX_at js hkn
    have g1 := wl_bd hX ht p (k := k) (by omega)
    have g2 := part_bd hf hX ht p (n := k) (by omega)
    have g3 := part_bd hf hX ht p (n := k + 1) (by omega)
    rw [loT_succ, hiT_succ, hpk] at g3
    rw [hpk] at g1
    dsimp only at g1 g3
    refine ac_skip (aq_then (ac_seq (ac_block (ac_draw 11 (by kernel_rfl) (by kernel_rfl) ?_))))
    refine ah_t 0 (fun w9 hs => hs) rfl rfl (by kernel_rfl) (q_move rfl) (ah_t 1 (fun w9 hs => hs) rfl rfl (by kernel_rfl) (q_move rfl) (ah_t 2 (fun w9 hs => hs) rfl rfl (by kernel_rfl) (q_move rfl) ?_))
    refine ah_t 3 (fun w9 hs => hs) rfl rfl (by kernel_rfl) (q_indexAddrA (i := k) (o71 + k * 1 + 0) hA7 rfl rfl rfl (by omega) Tryz.runUnderlying30 Tryz.sizeOf3 rfl) (ah_t 4 (fun w9 hs => hs) rfl rfl (by kernel_rfl) (q_loadX rfl Tryz.isAgg3 (fun w9 hs => (cell_blkx ((hs.snap _ _ (.head _)).2.2.2.1 b71 (N7.new _ _ hA7) hlt7)).trans ((hget7 k _ hx7) 0 _ rfl))) (ah_t 5 (fun w9 hs => hs) rfl rfl (by kernel_rfl) (q_move rfl) (ah_t 6 (fun w9 hs => hs) rfl rfl (by kernel_rfl) (q_move rfl) ?_)))
    refine ah_t 7 (fun w9 hs => hs) rfl rfl (by kernel_rfl) (q_indexAddrA (i := k) (o11 + k * 1 + 0) hA1 rfl rfl rfl (by omega) Tryz.runUnderlying30 Tryz.sizeOf3 rfl) (ah_t 8 (fun w9 hs => hs) rfl rfl (by kernel_rfl) (q_loadX rfl Tryz.isAgg3 (fun w9 hs => (hs.below.cell (p := ⟨_, _, none⟩) hlt1).trans ((hget1 k _ hx1) 0 _ rfl))) ?_)
    refine ah_t 9 (fun w9 hs => hs) rfl rfl (by kernel_rfl) (q_mul rfl rfl (by omega)) ?_
    refine ah_t 10 (fun w9 hs => hs) rfl rfl (by kernel_rfl) (q_add rfl rfl (by omega)) (ah_one 11 rfl (by kernel_rfl) (fun hok1 hcl1 => ?_))
    refine al_p (q_assign rfl) (al_end (ah_last (by kernel_rfl) ?_))
    refine aq_inN (aq_then (ac_region (al_p (q_move rfl) ?_)))
    refine al_p (q_add rfl rfl (by omega)) (al_p (q_assign rfl) (al_end (aq_then ?_)))
    skip
    refine aq_round (k + 1) (by omega) (by omega) ⟨rfl, rfl, (by rw [loT_succ, hpk]; rfl), rfl, rfl, trivial⟩ (fun w9 hs => hs)
  · have hke : k = cellN M := by have := of_decide_eq_false h1; omega
    refine ac_exit (aq_thenE (aq_thenE (aq_hit (aq_then ?_))))
    refine ac_seq (ac_region ?_)
    refine al_p (q_move rfl) (al_p (q_assign rfl) (al_end (aq_then ?_)))
    refine ac_ret (ret1 Tryz.results80 rfl (fun w9 hs => ?_))
    exact ⟨by rw [hke]; rfl, hs.below⟩
theorem tpJ_lim {f : Nat → Int} {n : Nat} (h : 1 ≤ n) : tpJ f n = topTo f (n - 1) := by
  obtain ⟨m, rfl⟩ : ∃ m, n = m + 1 := ⟨n - 1, by omega⟩
  rfl
theorem flS_pt {M : MachD} {C : CurD} {js : List Int} {n : Nat} (hn : n = cellN M) (p : PointD) : (flS M C (lst n (ptX js)) p).hi = (flS M C (lst n (ptX js)) p).lo := by
  show hiT M C p _ (cellN M) = loT M C p _ (cellN M)
  unfold hiT loT
  congr 1
  refine dotTo_ext _ fun k hk => ?_
  rw [ptX_at js (by omega)]
theorem bdS_pt {M : MachD} {C : CurD} {js : List Int} {n : Nat} (hn : n = cellN M) : (bdS M C (lst n (ptX js))).hi = (bdS M C (lst n (ptX js))).lo := by
  have e : (fun k => (flS M C (lst n (ptX js)) (limP M k)).hi) = fun k => (flS M C (lst n (ptX js)) (limP M k)).lo := funext fun k => flS_pt hn _
  show topTo _ _ = topTo _ _
  rw [e]
theorem rmost_v {a b v : Int} (h : max a b = v) (w : World) : Calls Tryz.prog 81 #[.int .i64 a, .int .i64 b] w (Ret (.int .i64 v) w) := by
  have h9 := rmost_any a b w
  rwa [h] at h9
def exC5 (M : MachD) (C : CurD) (xs : List SpanD) (k : Nat) : List Value := (lst k (fun j => (exA M C xs j).lo)).flatMap intCells
theorem exC5_succ (M : MachD) (C : CurD) (xs : List SpanD) (k : Nat) : exC5 M C xs (k + 1) = exC5 M C xs k ++ [.int .i64 (exA M C xs k).lo] := by unfold exC5; rw [lst_snoc, List.flatMap_append]; simp [intCells]
theorem erb_bs_int_1_0_ (a0 : Value) (ha0 : a0.oneCell' = true) : ∀ w, (Instr.buildSlice 30 1 #[(0, a0)]).run Tryz.prog w = .ok (.slice (some ⟨w.heap.size, 0, none⟩) 1 1) (w.alloc (.cells [a0].toArray 3)) := by
  have ea0 : a0.cells = #[a0] := cells_one ha0
  intro w; (simp [Instr.buildSlice, Instr.fill, cells_agg, newRow, Tryz.runUnderlying30, Tryz.zeroValue3, Tryz.sizeOf3, ea0] <;> (rw [(by kernel_rfl : Array.range 1 = #[0])]; simp [Value.cells]))
set_option maxRecDepth 100000 in
theorem rExcesses_any (R : MachR) (M : MachD) (Q : CurR) (C : CurD) (J : Option Addr) (nj cj : Nat) (js : List Int) (t : Int) (w : World) (hM : IsM w R M) (hC : IsC w Q C) (hJ : IsT 1 intCells w J nj js) (hf : Fit2 M C) (hn : nj = cellN M) (ht : t ≤ 1000000) (hb : ∀ k, k < nj → 0 ≤ iA js k ∧ iA js k ≤ t) : Calls Tryz.prog 38 #[(.agg (mCs R M).toArray), (.agg (cCs Q).toArray), (.slice J nj cj)] w (fun e w' => ∃ A c, e = .returned (.tuple #[.slice A (cellN M) c, .int .i64 (exLo M C (lst nj (ptX js)))]) ∧ NewT 1 intCells w.heap.size w' A (cellN M) c (lst (cellN M) (fun k => (exA M C (lst nj (ptX js)) k).lo)) ∧ Below w.heap.size w w') := by
  have hcn := cellN_eq hf.check
  have n1 := hJ.1
  have hX := ptX_fit (js := js) (n := nj) (t := t) hf.check hn hb
  have n3 := hM.limits.1
  have hlp := limits_pos hf.check
  have hlm := limits_most hf.check
  obtain ⟨b31, o31, hA3, hlt3, hget3⟩ := hM.limits.2 (by omega)
  refine calls_ax (vs := [(.agg (mCs R M).toArray), (.agg (cCs Q).toArray), (.slice J nj cj)]) Tryz.func38 rfl rfl ?_
  refine ac_seq (ac_region ?_)
  refine al_new (fun b => .pointer (some ⟨b, 0, none⟩)) (r_box rfl rfl) rfl rfl rfl ?_
  intro b1
  refine al_new (fun b => .pointer (some ⟨b, 0, none⟩)) (r_box rfl rfl) rfl rfl rfl ?_
  intro b2
  refine al_p (q_assign rfl) (al_p (q_assign rfl) (al_end (aq_then ?_)))
  refine ac_seq (ac_region ?_)
  refine al_p (q_assign rfl) (al_end (aq_then ?_))
  refine ac_seq (ac_seq (ac_region ?_))
  refine al_p (q_assign rfl) (al_end (aq_then ?_))
  refine ac_block ?_
  refine ac_loop (β := Nat) (fun k => k ≤ R.lc) (fun k => [(2, (.slice J nj cj)), (3, (.pointer (some ⟨b1, 0, none⟩))), (4, (.pointer (some ⟨b2, 0, none⟩))), (6, (.slice none 0 0)), (7, (.int .i64 0)), (8, (.int .i64 (tpJ (fun k => (flS M C (lst nj (ptX js)) (limP M k)).lo) k))), (9, (.int .i64 (k : Int)))]) (fun _ => _) (fun k => [(b2, _), (b1, _)]) (fun k => R.lc - k) 0 (by omega) ⟨rfl, rfl, rfl, rfl, rfl, rfl, rfl, trivial⟩ (fun w9 hs => hs) (fun k hF1 => ?_)
  refine ac_seq (ac_seq (ac_region ?_))
  refine al_p (q_move rfl) ?_
  refine al_p (q_fieldAddr 3 rfl Tryz.runUnderlying29 rfl Tryz.sizeOf24 (by decide) rfl) (al_p (q_load (i := 1) rfl rfl rfl Tryz.isAgg24) (al_p (q_lenS rfl Tryz.runUnderlying24) (al_p (q_lss rfl rfl) (al_end (aq_then ?_)))))
  refine ac_cond rfl (fun h1 => ?_) (fun h1 => ?_)
  · have hkn : k < R.lc := by have := of_decide_eq_true h1; omega
    have hx3 := limP_get (M := M) (k := k) (by omega)
    refine ac_skip (aq_then (ac_seq (ac_block (ac_seq ?_))))
    refine ac_draw 9 (by kernel_rfl) (by kernel_rfl) ?_
    refine ah_t 0 (fun w9 hs => hs) rfl rfl (by kernel_rfl) (q_loadAll (i := 1) rfl rfl Tryz.isAgg29 Tryz.sizeOf29 rfl) (ah_t 1 (fun w9 hs => hs) rfl rfl (by kernel_rfl) (q_loadAll (i := 0) rfl rfl Tryz.isAgg32 Tryz.sizeOf32 rfl) (ah_t 2 (fun w9 hs => hs) rfl rfl (by kernel_rfl) (q_move rfl) ?_))
    refine ah_t 3 (fun w9 hs => hs) rfl rfl (by kernel_rfl) (q_fieldAddr 3 rfl Tryz.runUnderlying29 rfl Tryz.sizeOf24 (by decide) rfl) (ah_t 4 (fun w9 hs => hs) rfl rfl (by kernel_rfl) (q_load (i := 1) rfl rfl rfl Tryz.isAgg24) (ah_t 5 (fun w9 hs => hs) rfl rfl (by kernel_rfl) (q_move rfl) ?_))
    refine ah_t 6 (fun w9 hs => hs) rfl rfl (by kernel_rfl) (q_indexAddrA (i := k) (o31 + k * 2 + 0) hA3 rfl rfl rfl (by omega) Tryz.runUnderlying24 Tryz.sizeOf36 rfl) (ah_t 7 (fun w9 hs => hs) rfl rfl (by kernel_rfl) (q_loadXs (PointD.cells (limP M k)) rfl Tryz.isAgg36 Tryz.sizeOf36 (fun w9 hs j9 v9 h9 => by rw [addr_add]; exact (hs.below.cell (p := ⟨_, _, none⟩) hlt3).trans ((hget3 k _ hx3) j9 v9 h9)) rfl) (ah_one 8 rfl (by kernel_rfl) (fun hok1 hcl1 => ?_)))
    refine al_call Tryz.call80 (.cons rfl (.cons rfl (.cons rfl (.cons rfl .nil)))) rfl rfl (fun w1 hs1 => ?_)
    refine (rat5_any R M Q C J nj cj js (limP M k) t _ (hM.below hs1.below) (hC.below hs1.below) (hJ.below hs1.below) hf hn ht hb).mono ?_
    rintro e u1 ⟨rfl, hb_1⟩
    refine ⟨_, rfl, hb_1, ?_⟩
    clear hs1
    refine al_end (ah_back hok1 hcl1 (fun w9 hs => (hs.fewer 1 rfl)) ?_)
    refine ah_t 9 (fun w9 hs => (hs.fewer 1 rfl)) rfl rfl (by kernel_rfl) (q_assign rfl) (ah_done (by kernel_rfl) ?_)
    refine aq_then (ac_seq (ac_region ?_))
    refine al_p (q_move rfl) (al_p (q_eql rfl rfl) (al_p (q_move rfl) ?_))
    refine aq_split 34 rfl (fun hb1 => ?_) (fun hb1 => ?_)
    · have hk0 : k = 0 := by simp at hb1; omega
      have hnx := tpJ_a (f := (fun k => (flS M C (lst nj (ptX js)) (limP M k)).lo)) hk0
      refine al_skip rfl rfl rfl (al_skip rfl rfl rfl (al_skip rfl rfl rfl (al_p (q_pickT rfl rfl) (al_end (aq_then ?_)))))
      refine ac_condT rfl (ac_region (al_p (q_move rfl) (al_p (q_assign rfl) (al_end ?_))))
      refine aq_inN (aq_then (ac_region (al_p (q_move rfl) ?_)))
      refine al_p (q_add rfl rfl (by omega)) (al_p (q_assign rfl) (al_end (aq_then ?_)))
      skip
      refine aq_round (k + 1) (by omega) (by omega) ⟨rfl, rfl, rfl, rfl, rfl, (by rw [hnx]; rfl), rfl, trivial⟩ (fun w9 hs => (hs.fewer 1 rfl))
    · have hk0 : k ≠ 0 := by simp at hb1; omega
      refine al_p (q_move rfl) (al_p (q_move rfl) (al_p (q_gtr rfl rfl) (al_p (q_pickF rfl rfl) (al_end (aq_then ?_)))))
      refine ac_cond rfl (fun h2 => ?_) (fun h2 => ?_)
      · have hnx := tpJ_b (f := (fun k => (flS M C (lst nj (ptX js)) (limP M k)).lo)) hk0 (of_decide_eq_true h2)
        refine ac_region (al_p (q_move rfl) (al_p (q_assign rfl) (al_end (aq_inN ?_))))
        refine aq_then (ac_region (al_p (q_move rfl) ?_))
        refine al_p (q_add rfl rfl (by omega)) (al_p (q_assign rfl) (al_end (aq_then ?_)))
        skip
        refine aq_round (k + 1) (by omega) (by omega) ⟨rfl, rfl, rfl, rfl, rfl, (by rw [hnx]; rfl), rfl, trivial⟩ (fun w9 hs => (hs.fewer 1 rfl))
      · have hnx := tpJ_c (f := (fun k => (flS M C (lst nj (ptX js)) (limP M k)).lo)) hk0 (by have := of_decide_eq_false h2; omega)
        refine ac_skip (aq_inN (aq_then (ac_region (al_p (q_move rfl) ?_))))
        refine al_p (q_add rfl rfl (by omega)) (al_p (q_assign rfl) (al_end (aq_then ?_)))
        skip
        refine aq_round (k + 1) (by omega) (by omega) ⟨rfl, rfl, rfl, rfl, rfl, (by rw [hnx]; rfl), rfl, trivial⟩ (fun w9 hs => (hs.fewer 1 rfl))
  · have hke1 : k = R.lc := by have := of_decide_eq_false h1; omega
    have hbd : tpJ (fun k => (flS M C (lst nj (ptX js)) (limP M k)).lo) k = (bdS M C (lst nj (ptX js))).lo := by rw [hke1, ← n3, tpJ_lim hlp]; rfl
    have g2 := bdS_bd hf hX ht
    refine ac_exit (aq_thenE (aq_thenE (aq_hit (aq_then ?_))))
    refine ac_seq (ac_region ?_)
    refine al_p (q_assign rfl) (al_end (aq_then ?_))
    refine ac_seq (ac_region ?_)
    refine al_p (q_assign rfl) (al_end (aq_then ?_))
    refine ac_seq (ac_region ?_)
    refine al_p (q_loadAll (i := 1) rfl rfl Tryz.isAgg29 Tryz.sizeOf29 rfl) (al_call Tryz.call64 (.cons rfl .nil) rfl rfl (fun w2 hs2 => ?_))
    refine (rcells5_any R M _ (hM.below hs2.below) hX.check).mono ?_
    rintro e u2 ⟨A7, c7, rfl, N7, hb_2⟩
    refine ⟨_, rfl, hb_2, ?_⟩
    clear hs2
    refine al_p (q_assign rfl) (al_end (aq_then ?_))
    refine ac_seq (ac_seq (ac_region ?_))
    refine al_p (q_assign rfl) (al_end (aq_then ?_))
    refine ac_block ?_
    refine ac_loop (β := Nat × Gr) (fun p => p.1 ≤ cellN M ∧ gok p.2 p.1 1 (exC5 M C (lst nj (ptX js)) p.1)) (fun p => [(2, (.slice J nj cj)), (3, (.pointer (some ⟨b1, 0, none⟩))), (4, (.pointer (some ⟨b2, 0, none⟩))), (6, (.slice none 0 0)), (7, (.int .i64 0)), (8, (.int .i64 (tpJ (fun k => (flS M C (lst nj (ptX js)) (limP M k)).lo) k))), (11, (.slice (gA p.2) p.1 (gC p.2))), (12, (.int .i64 (dotTo (fun k => (exA M C (lst nj (ptX js)) k).lo) p.1))), (13, (.slice A7 (cellN M) c7)), (14, (.int .i64 (p.1 : Int)))]) (fun _ => _) (fun p => (b2, _) :: (b1, _) :: (gt p.2 (exC5 M C (lst nj (ptX js)) p.1) ++ ([]))) (fun p => cellN M - p.1) (0, none) ⟨Nat.zero_le _, gok.none 1⟩ ⟨rfl, rfl, rfl, rfl, rfl, rfl, rfl, rfl, rfl, rfl, trivial⟩ (fun w9 hs => (by rw [show gt none (exC5 M C (lst nj (ptX js)) 0) = [] from rfl, List.nil_append]; exact hs)) (fun p hF2 => ?_)
    obtain ⟨hpx, hgp⟩ := hF2
    refine ac_seq (ac_seq (ac_region ?_))
    refine al_p (q_move rfl) (al_p (q_move rfl) (al_p (q_lenS rfl Tryz.runUnderlying24) (al_p (q_lss rfl rfl) (al_end (aq_then ?_)))))
    refine ac_cond rfl (fun h3 => ?_) (fun h3 => ?_)
    · have hpn : p.1 < cellN M := by have := of_decide_eq_true h3; omega
      obtain ⟨b71, o71, hA7, hlt7, hget7⟩ := N7.isT.2 (by omega)
      have hx7 := lst_get (cellP M) hpn
      have g1 := flS_bd hf hX ht (cellP M p.1)
      have g3 := exS_bd hf hX ht (n := p.1) (by omega)
      have g4 := exA_bd hf hX ht p.1
      refine ac_skip (aq_then (ac_seq (ac_block (ac_seq ?_))))
      refine ac_drawF 11 (.s (.s .z)) (by kernel_rfl) (by kernel_rfl) ?_
      refine ah_t 0 (fun w9 hs => (hs.front (.s (.s (.z))))) rfl rfl (by kernel_rfl) (q_loadAll (i := 1) rfl rfl Tryz.isAgg29 Tryz.sizeOf29 rfl) (ah_t 1 (fun w9 hs => (hs.front (.s (.s (.z))))) rfl rfl (by kernel_rfl) (q_loadAll (i := 0) rfl rfl Tryz.isAgg32 Tryz.sizeOf32 rfl) (ah_t 2 (fun w9 hs => (hs.front (.s (.s (.z))))) rfl rfl (by kernel_rfl) (q_move rfl) (ah_t 3 (fun w9 hs => (hs.front (.s (.s (.z))))) rfl rfl (by kernel_rfl) (q_move rfl) (ah_t 4 (fun w9 hs => (hs.front (.s (.s (.z))))) rfl rfl (by kernel_rfl) (q_move rfl) ?_))))
      refine ah_t 5 (fun w9 hs => (hs.front (.s (.s (.z))))) rfl rfl (by kernel_rfl) (q_indexAddrA (i := p.1) (o71 + p.1 * 2 + 0) hA7 rfl rfl rfl (by omega) Tryz.runUnderlying24 Tryz.sizeOf36 rfl) (ah_t 6 (fun w9 hs => (hs.front (.s (.s (.z))))) rfl rfl (by kernel_rfl) (q_loadXs (PointD.cells (cellP M p.1)) rfl Tryz.isAgg36 Tryz.sizeOf36 (fun w9 hs j9 v9 h9 => by rw [addr_add]; exact (cell_blkx ((hs.snap _ _ (.head _)).2.2.2.1 b71 (N7.new _ _ hA7) hlt7)).trans ((hget7 p.1 _ hx7) j9 v9 h9)) rfl) (ah_t 8 (fun w9 hs => (hs.front (.s (.s (.z))))) rfl rfl (by kernel_rfl) (q_move rfl) (ah_one 7 rfl (by kernel_rfl) (fun hok2 hcl2 => ?_))))
      refine al_call Tryz.call80 (.cons rfl (.cons rfl (.cons rfl (.cons rfl .nil)))) rfl rfl (fun w3 hs3 => ?_)
      refine (rat5_any R M Q C J nj cj js (cellP M p.1) t _ (hM.below hs3.below) (hC.below hs3.below) (hJ.below hs3.below) hf hn ht hb).mono ?_
      rintro e u3 ⟨rfl, hb_3⟩
      refine ⟨_, rfl, hb_3, ?_⟩
      clear hs3
      refine al_end (ah_back hok2 hcl2 (fun w9 hs => ((hs.fewer 1 rfl).front (.s (.s (.z))))) ?_)
      refine ah_t 9 (fun w9 hs => ((hs.fewer 1 rfl).front (.s (.s (.z))))) rfl rfl (by kernel_rfl) (q_sub rfl rfl (by omega)) (ah_one 10 rfl (by kernel_rfl) (fun hok3 hcl3 => ?_))
      refine al_call Tryz.call81 (.cons rfl (.cons rfl .nil)) rfl rfl (fun w4 hs4 => ?_)
      refine (rmost_v (show max 0 ((flS M C (lst nj (ptX js)) (cellP M p.1)).lo - tpJ (fun k => (flS M C (lst nj (ptX js)) (limP M k)).lo) k) = (exA M C (lst nj (ptX js)) p.1).lo from by rw [hbd, ← bdS_pt hn]; rfl) _).mono ?_
      rintro e u4 ⟨rfl, hb_4⟩
      refine ⟨_, rfl, hb_4, ?_⟩
      clear hs4
      refine al_end (ah_back hok3 hcl3 (fun w9 hs => ((hs.fewer 2 rfl).front (.s (.s (.z))))) ?_)
      refine ah_t 11 (fun w9 hs => ((hs.fewer 2 rfl).front (.s (.s (.z))))) rfl rfl (by kernel_rfl) (q_assign rfl) (ah_done (by kernel_rfl) ?_)
      refine aq_then (ac_seq (ac_region ?_))
      refine al_p (q_move rfl) (al_p (q_move rfl) (al_new (fun b => .slice (some ⟨b, 0, none⟩) 1 1) (r_buildSlice (.cons rfl .nil) (erb_bs_int_1_0_ _ rfl)) rfl rfl rfl ?_))
      intro b3
      refine al_grow (z := 1) (bytes := 8) (zv := (.int .i64 0)) (o := p.2) (cs := (exC5 M C (lst nj (ptX js)) p.1)) (vs := [.int .i64 (exA M C (lst nj (ptX js)) p.1).lo]) rfl rfl (.s (.s (.s (.z)))) hgp (Sor.box (j := 0) rfl rfl rfl) Tryz.underlying30 (by kernel_rfl) rfl (by omega) (by decide) rfl rfl (fun o_1 g_1 => ?_)
      refine ⟨_, (.s (.s (.s (.z)))), ?_⟩
      refine al_p (q_assign rfl) (al_end (aq_then ?_))
      refine aq_keepL [2, 3, 4, 6, 7, 8, 11, 12, 13, 14, 15, 42, 43, 44, 45, 48, 49, 50, 51, 52, 53, 54, 55, 56, 57, 58, 59, 60, 61, 62] (.cons rfl (.cons rfl (.cons rfl (.cons rfl (.cons rfl (.cons rfl (.cons rfl (.cons rfl (.cons rfl (.cons rfl (.cons rfl (.cons rfl (.cons rfl (.cons rfl (.cons rfl (.cons rfl (.cons rfl (.cons rfl (.cons rfl (.cons rfl (.cons rfl (.cons rfl (.cons rfl (.cons rfl (.cons rfl (.cons rfl (.cons rfl (.cons rfl (.cons rfl (.cons rfl .nil)))))))))))))))))))))))))))))) ?_
      refine ac_region (al_p (q_move rfl) (al_p (q_move rfl) ?_))
      refine al_p (q_add rfl rfl (by omega)) (al_p (q_assign rfl) (al_end (aq_inN (aq_then ?_))))
      refine ac_region (al_p (q_move rfl) ?_)
      refine al_p (q_add rfl rfl (by omega)) (al_p (q_assign rfl) (al_end (aq_then ?_)))
      skip
      refine aq_round ((p.1 + 1, o_1)) (by simp only; omega) ⟨by simp only; omega, by simp only; rw [exC5_succ]; exact g_1⟩ ⟨rfl, rfl, rfl, rfl, rfl, rfl, rfl, rfl, rfl, rfl, trivial⟩ (fun w9 hs => (by dsimp only; rw [exC5_succ]; exact ((hs.fewer 2 rfl).tail 1 rfl)))
    · have hke : p.1 = cellN M := by have := of_decide_eq_false h3; omega
      refine ac_exit (aq_thenE (aq_thenE (aq_hit (aq_then ?_))))
      refine ac_seq (ac_region ?_)
      refine al_p (q_move rfl) (al_p (q_move rfl) (al_p (q_assign rfl) (al_p (q_assign rfl) (al_end (aq_then ?_)))))
      refine ac_ret (ret2 Tryz.results38 rfl rfl (fun w9 hs => ?_))
      exact ⟨gA p.2, gC p.2, by rw [hke]; rfl, by have h9 := hs.grown (enc := intCells) (o := p.2) (cs := exC5 M C (lst nj (ptX js)) p.1) (zs := lst p.1 (fun k => (exA M C (lst nj (ptX js)) k).lo)) (fun _ => rfl) (fun y hy => by simp [hy]) hgp rfl (lst_length _ _); rw [hke] at h9; exact h9, hs.below⟩
end
end Go.Proofs.YtogcjgjhmlifgaaGreat
