import Derived.Test.YtogcjgjhmlifgaaGreatOBK
import Derived.Test.YtogcjgjhmlifgaaGreatOBL
import Derived.Test.YtogcjgjhmlifgaaGreatOBM
import Derived.Test.YtogcjgjhmlifgaaGreatRows
import Derived.KernelRfl
import Derived.Laws.StructEq
namespace Go.Proofs.YtogcjgjhmlifgaaGreat
set_option linter.unusedVariables false
set_option linter.unusedSimpArgs false
section
open Go.RowKit
theorem holdsY (X : Option Addr) (nx cx : Nat) (xs : List SpanD) (J : Option Addr) (cj : Nat) (js : List Int) (w : World) (hS : IsT 2 SpanD.cells w X nx xs) (hJ : IsT 1 intCells w J nx js) (hn : nx ≤ 1000) (hb : ∀ k, k < nx → (spA xs k).lo ≤ iA js k ∧ iA js k ≤ (spA xs k).hi) : Calls Tryz.prog 23 #[.slice X nx cx, .slice J nx cj] w (Ret (.bool true) w) := by
  have h := holds5_any X nx cx xs J nx cj js w hS hJ (by omega)
  rwa [decide_eq_true (show nx = nx ∧ hdP xs js nx from ⟨rfl, fun k hk => wthn_iff.2 (hb k hk)⟩)] at h
theorem fit_up {M : MachD} {t u : Int} {xs : List SpanD} (h : FitX M t xs) (hu : t ≤ u) : FitX M u xs := ⟨h.check, h.len, fun a ha => by have := h.each a ha; omega⟩
theorem imE_cases (M : MachD) (C : CurD) (xs : List SpanD) : imE M C xs = 0 ∧ exLo M C xs ≠ 0 ∨ imE M C xs = 8 := by
  unfold imE
  by_cases h : exLo M C xs = 0
  · rw [if_pos h]; exact Or.inr rfl
  · rw [if_neg h]; exact Or.inl ⟨rfl, h⟩
set_option maxRecDepth 100000 in
theorem boxed_any (R : MachR) (M : MachD) (Q : CurR) (C : CurD) (g : Int) (X : Option Addr) (nx cx : Nat) (xs : List SpanD) (w : World) (hM : IsM w R M) (hC : IsC w Q C) (hS : IsT 2 SpanD.cells w X nx xs) : Calls Tryz.prog 35 #[(.agg #[.string M.name, .slice R.A R.la R.ca, .slice R.B R.lb R.cb, .slice R.C R.lc R.cc, .int .i64 M.grid.r, .int .i64 M.grid.z, .int .i64 M.grid.nr, .int .i64 M.grid.nz, .int .i64 M.grid.step, .slice R.D R.ld R.cd, .slice Q.A Q.la Q.ca, .slice Q.B Q.lb Q.cb, .slice Q.C Q.lc Q.cc, .int .i64 g]), (.slice X nx cx)] w (fun e w' => ∃ b : Bool, e = .returned (.bool b) ∧ (b = true → validC M C = true ∧ 1 ≤ g ∧ g ≤ 1000000 ∧ boxB M g xs = true) ∧ Below w.heap.size w w') := by
  refine calls_ax (vs := [(.agg #[.string M.name, .slice R.A R.la R.ca, .slice R.B R.lb R.cb, .slice R.C R.lc R.cc, .int .i64 M.grid.r, .int .i64 M.grid.z, .int .i64 M.grid.nr, .int .i64 M.grid.nz, .int .i64 M.grid.step, .slice R.D R.ld R.cd, .slice Q.A Q.la Q.ca, .slice Q.B Q.lb Q.cb, .slice Q.C Q.lc Q.cc, .int .i64 g]), (.slice X nx cx)]) Tryz.func35 rfl rfl ?_
  refine ac_seq (ac_region ?_)
  refine al_new (fun b => .pointer (some ⟨b, 0, none⟩)) (r_box rfl rfl) rfl rfl rfl ?_
  intro b1
  refine al_p (q_assign rfl) (al_end (aq_then ?_))
  refine ac_seq (ac_region ?_)
  refine al_p (q_fieldAddr 0 rfl Tryz.runUnderlying34 rfl Tryz.sizeOf29 (by decide) rfl) (al_p (q_loadSub (i := 0) rfl rfl Tryz.isAgg29 Tryz.sizeOf29 .k0 .k10) ?_)
  refine al_p (q_fieldAddr 10 rfl Tryz.runUnderlying34 rfl Tryz.sizeOf32 (by decide) rfl) (al_p (q_loadSub (i := 0) rfl rfl Tryz.isAgg32 Tryz.sizeOf32 .k10 .k3) (al_call Tryz.call30 (.cons rfl (.cons rfl .nil)) rfl rfl (fun w1 hs1 => ?_)))
  refine (rvalid5_any R M Q C _ (hM.below hs1.below) (hC.below hs1.below)).mono ?_
  rintro e u1 ⟨rfl, hb_1⟩
  refine ⟨_, rfl, hb_1, ?_⟩
  clear hs1
  refine al_p (q_move rfl) ?_
  refine aq_split 10 rfl (fun hb1 => ?_) (fun hb1 => ?_)
  · have hv : validC M C = true := hb1
    refine al_p (q_fieldAddr 13 rfl Tryz.runUnderlying34 rfl Tryz.sizeOf3 (by decide) rfl) (al_p (q_load (i := 0) rfl rfl rfl Tryz.isAgg3) (al_p (q_geq rfl rfl) (al_p (q_pickT rfl rfl) (al_p (q_move rfl) ?_))))
    refine aq_split 15 rfl (fun hb2 => ?_) (fun hb2 => ?_)
    · have g1 := of_decide_eq_true hb2
      refine al_p (q_fieldAddr 13 rfl Tryz.runUnderlying34 rfl Tryz.sizeOf3 (by decide) rfl) (al_p (q_load (i := 0) rfl rfl rfl Tryz.isAgg3) (al_p (q_leq rfl rfl) (al_p (q_pickT rfl rfl) (al_p (q_move rfl) ?_))))
      refine aq_split 20 rfl (fun hb3 => ?_) (fun hb3 => ?_)
      · have g2 := of_decide_eq_true hb3
        refine al_p (q_fieldAddr 0 rfl Tryz.runUnderlying34 rfl Tryz.sizeOf29 (by decide) rfl) (al_p (q_loadSub (i := 0) rfl rfl Tryz.isAgg29 Tryz.sizeOf29 .k0 .k10) ?_)
        refine al_p (q_fieldAddr 13 rfl Tryz.runUnderlying34 rfl Tryz.sizeOf3 (by decide) rfl) (al_p (q_load (i := 0) rfl rfl rfl Tryz.isAgg3) (al_p (q_move rfl) (al_call Tryz.call29 (.cons rfl (.cons rfl (.cons rfl .nil))) rfl rfl (fun w2 hs2 => ?_))))
        refine (rvbox9_any R M X nx cx xs g _ (hM.below hs2.below) (hS.below hs2.below)).mono ?_
        rintro e u2 ⟨rfl, hb_2⟩
        refine ⟨_, rfl, hb_2, ?_⟩
        clear hs2
        refine al_p (q_pickT rfl rfl) (al_p (q_assign rfl) (al_end (aq_then ?_)))
        refine ac_ret (ret1 Tryz.results35 rfl (fun w9 hs => ?_))
        first | exact ⟨false, rfl, (fun h => by cases h), hs.below⟩ | exact ⟨_, rfl, (fun h => ⟨hv, g1, g2, h⟩), hs.below⟩
      · skip
        refine al_skip rfl rfl rfl (al_skip rfl rfl rfl (al_skip rfl rfl rfl (al_skip rfl rfl rfl (al_skip rfl rfl rfl ?_))))
        refine al_skip rfl rfl rfl (al_p (q_pickF rfl rfl) (al_p (q_assign rfl) (al_end (aq_then ?_))))
        refine ac_ret (ret1 Tryz.results35 rfl (fun w9 hs => ?_))
        first | exact ⟨false, rfl, (fun h => by cases h), hs.below⟩ | exact ⟨_, rfl, (fun h => ⟨hv, g1, g2, h⟩), hs.below⟩
    · skip
      refine al_skip rfl rfl rfl (al_skip rfl rfl rfl (al_skip rfl rfl rfl (al_p (q_pickF rfl rfl) (al_p (q_move rfl) ?_))))
      refine al_skip rfl rfl rfl (al_skip rfl rfl rfl (al_skip rfl rfl rfl (al_skip rfl rfl rfl (al_skip rfl rfl rfl ?_))))
      refine al_skip rfl rfl rfl (al_p (q_pickF rfl rfl) (al_p (q_assign rfl) (al_end (aq_then ?_))))
      refine ac_ret (ret1 Tryz.results35 rfl (fun w9 hs => ?_))
      first | exact ⟨false, rfl, (fun h => by cases h), hs.below⟩ | exact ⟨_, rfl, (fun h => ⟨hv, g1, g2, h⟩), hs.below⟩
  · skip
    refine al_skip rfl rfl rfl (al_skip rfl rfl rfl (al_skip rfl rfl rfl (al_p (q_pickF rfl rfl) (al_p (q_move rfl) ?_))))
    refine al_skip rfl rfl rfl (al_skip rfl rfl rfl (al_skip rfl rfl rfl (al_p (q_pickF rfl rfl) (al_p (q_move rfl) ?_))))
    refine al_skip rfl rfl rfl (al_skip rfl rfl rfl (al_skip rfl rfl rfl (al_skip rfl rfl rfl (al_skip rfl rfl rfl ?_))))
    refine al_skip rfl rfl rfl (al_p (q_pickF rfl rfl) (al_p (q_assign rfl) (al_end (aq_then ?_))))
    refine ac_ret (ret1 Tryz.results35 rfl (fun w9 hs => ?_))
    first | exact ⟨false, rfl, (fun h => by cases h), hs.below⟩ | exact ⟨_, rfl, (fun h => ⟨hv, g1, g2, h⟩), hs.below⟩
end
section
open Go.RowKit
theorem lies0 {a b c d : Int} (h : liesL a b c d = 0) : b < c ∨ d < a := by
  unfold liesL at h
  split at h
  · split at h
    · cases h
    · split at h
      · assumption
      · cases h
  · cases h
theorem imR_of {M : MachD} {C : CurD} {t : Int} {xs : List SpanD} (h : imE M C xs = 0) : imR M C t xs = lst (cellN M) (imA M C t xs) :=
  (imE_cases M C xs).elim (fun g => if_neg g.2) (fun g => by rw [g] at h; cases h)
theorem set_at {xs : List SpanD} {i k : Nat} {y : SpanD} (hk : k < xs.length) : spA (xs.set i y) k = if k = i then y else spA xs k := by
  unfold spA
  rw [List.getD_eq_getElem?_getD, List.getElem?_set]
  by_cases h : i = k
  · subst h; rw [if_pos rfl, if_pos rfl, if_pos hk]; rfl
  · rw [if_neg h, if_neg (fun e => h e.symm), ← List.getD_eq_getElem?_getD]
theorem split_one {xs : List SpanD} {js : List Int} {i : Nat} (hi : i < xs.length) (h : ∀ k, k < xs.length → (spA xs k).lo ≤ iA js k ∧ iA js k ≤ (spA xs k).hi) : hdP (loX xs i) js xs.length ∨ ∀ k, k < xs.length → (spA (upX xs i) k).lo ≤ iA js k ∧ iA js k ≤ (spA (upX xs i) k).hi := by
  rcases Int.lt_or_le (midX xs i) (iA js i) with g | g
  · refine Or.inr fun k hk => ?_
    unfold upX
    rw [set_at hk]
    split
    · rename_i e; subst e; exact ⟨by dsimp only; omega, (h k hk).2⟩
    · exact h k hk
  · refine Or.inl fun k hk => ?_
    unfold loX
    rw [set_at hk, wthn_iff]
    split
    · rename_i e; subst e; exact ⟨(h k hk).1, g⟩
    · exact h k hk
set_option maxRecDepth 100000 in
theorem misses_any (R : MachR) (M : MachD) (Q : CurR) (C : CurD) (X : Option Addr) (nx cx : Nat) (xs : List SpanD) (t : Int) (w : World) (hM : IsM w R M) (hC : IsC w Q C) (hS : IsT 2 SpanD.cells w X nx xs) (hv : validC M C = true) (hb : boxB M t xs = true) (t0 : 1 ≤ t) (t1 : t ≤ 1000000) : Calls Tryz.prog 36 #[(.agg (mCs R M).toArray), (.agg (cCs Q).toArray), (.int .i64 t), (.slice X nx cx)] w (fun e w' => ∃ z E, e = .returned (.tuple #[.int .i64 z, .int .i64 E]) ∧ (E = 0 → 0 ≤ z → ∃ k, k < cellN M ∧ (liesL (imA M C t xs k).lo (imA M C t xs k).hi (spA xs k).lo (spA xs k).hi) = 0) ∧ Below w.heap.size w w') := by
  have hcn := cellN_eq (boxB_iff.1 hb).check
  have n1 := hS.1
  have n2 := (boxB_iff.1 hb).len
  refine calls_ax (vs := [(.agg (mCs R M).toArray), (.agg (cCs Q).toArray), (.int .i64 t), (.slice X nx cx)]) Tryz.func36 rfl rfl ?_
  refine ac_seq (ac_region ?_)
  refine al_new (fun b => .pointer (some ⟨b, 0, none⟩)) (r_box rfl rfl) rfl rfl rfl ?_
  intro b1
  refine al_new (fun b => .pointer (some ⟨b, 0, none⟩)) (r_box rfl rfl) rfl rfl rfl ?_
  intro b2
  refine al_p (q_assign rfl) (al_p (q_assign rfl) (al_end (aq_then ?_)))
  refine ac_seq (ac_region ?_)
  refine al_p (q_loadAll (i := 1) rfl rfl Tryz.isAgg29 Tryz.sizeOf29 rfl) (al_p (q_loadAll (i := 0) rfl rfl Tryz.isAgg32 Tryz.sizeOf32 rfl) (al_p (q_move rfl) (al_p (q_move rfl) (al_call Tryz.call39 (.cons rfl (.cons rfl (.cons rfl (.cons rfl .nil)))) rfl rfl (fun w1 hs1 => ?_)))))
  refine (imbox_any R M Q C X nx cx xs t _ (hM.below hs1.below) (hC.below hs1.below) (hS.below hs1.below) hv hb t0 t1).mono ?_
  rintro e u1 ⟨A_b, n_b, c_b, rfl, N_b, hb_1⟩
  refine ⟨_, rfl, hb_1, ?_⟩
  clear hs1
  refine al_p (q_move rfl) (al_p (q_extract rfl rfl) (al_p (q_extract rfl rfl) (al_p (q_assign rfl) (al_p (q_assign rfl) ?_))))
  refine al_end (aq_then ?_)
  refine ac_seq (ac_seq (ac_region ?_))
  refine al_p (q_move rfl) (al_p (q_neq rfl rfl) (al_end (aq_then ?_)))
  refine ac_cond rfl (fun h1 => ?_) (fun h1 => ?_)
  · have hne := bne_iff_ne.1 h1
    refine ac_seq (ac_region ?_)
    refine al_p (q_move rfl) (al_p (q_assign rfl) (al_p (q_assign rfl) (al_end (aq_then ?_))))
    refine ac_ret (aq_thenR (ret2 Tryz.results36 rfl rfl (fun w9 hs => ?_)))
    exact ⟨_, _, rfl, (fun h => absurd h hne), hs.below⟩
  · have h0 : imE M C xs = 0 := by simpa using h1
    rw [imR_of h0] at N_b
    have len_b := N_b.isT.1
    rw [lst_length] at len_b
    refine ac_skip (aq_then (ac_seq (ac_seq (ac_region ?_))))
    refine al_p (q_move rfl) (al_p (q_lenS rfl Tryz.runUnderlying45) (al_p (q_move rfl) (al_end (aq_then ?_))))
    refine ac_block (ac_loop (β := Nat) (fun k => True) (fun k => [(3, (.slice X nx cx)), (8, (.int .i64 0)), (9, (.int .i64 0)), (25, (.slice A_b n_b c_b)), (26, (.int .i64 (n_b : Int))), (27, (.int .i64 (k : Int)))]) (fun _ => _) (fun k => [(b2, _), (b1, _)]) (fun k => n_b - k) 0 trivial ⟨rfl, rfl, rfl, rfl, rfl, rfl, trivial⟩ (fun w9 hs => hs) (fun k hF1 => ?_))
    refine ac_seq (ac_region ?_)
    refine al_p (q_lss rfl rfl) (al_end (aq_then ?_))
    refine ac_seq ?_
    refine ac_cond rfl (fun h2 => ?_) (fun h2 => ?_)
    · have hkn : k < n_b := by have := of_decide_eq_true h2; omega
      obtain ⟨b_b, o_b, hA_b, hlt_b, hget_b⟩ := N_b.isT.2 (by omega)
      have hx_b := lst_get (imA M C t xs) (n := cellN M) (k := k) (by omega)
      obtain ⟨b21, o21, hA2, hlt2, hget2⟩ := hS.2 (by omega)
      have hx2 := spA_get (x := xs) (k := k) (by omega)
      refine ac_skip (aq_then (ac_seq (ac_block (ac_seq (ac_region ?_)))))
      refine al_p (q_move rfl) ?_
      refine al_p (q_indexAddrA (i := k) (o_b + k * 2 + 0) hA_b rfl rfl rfl (by omega) Tryz.runUnderlying45 Tryz.sizeOf52 rfl) (al_p (q_loadXs (SpanD.cells (imA M C t xs k)) rfl Tryz.isAgg52 Tryz.sizeOf52 (fun w9 hs j9 v9 h9 => by rw [addr_add]; exact (cell_blkx ((hs.snap _ _ (.head _)).2.2.2.1 b_b (N_b.new _ _ hA_b) hlt_b)).trans ((hget_b k _ hx_b) j9 v9 h9)) rfl) (al_new (fun b => .pointer (some ⟨b, 0, none⟩)) (r_alloc Tryz.zeroValue52 rfl) rfl rfl rfl ?_))
      intro b3
      refine al_p (q_assign rfl) (al_storeAll (i := 0) rfl rfl rfl rfl Tryz.sizeOf52 rfl rfl .k0 rfl (al_end (aq_then ?_)))
      refine ac_seq (ac_draw 6 (by kernel_rfl) (by kernel_rfl) ?_)
      refine ah_t 0 (fun w9 hs => hs) rfl rfl (by kernel_rfl) (q_loadAll (i := 0) rfl rfl Tryz.isAgg52 Tryz.sizeOf52 rfl) (ah_t 1 (fun w9 hs => hs) rfl rfl (by kernel_rfl) (q_move rfl) (ah_t 2 (fun w9 hs => hs) rfl rfl (by kernel_rfl) (q_move rfl) ?_))
      refine ah_t 3 (fun w9 hs => hs) rfl rfl (by kernel_rfl) (q_indexAddrA (i := k) (o21 + k * 2 + 0) hA2 rfl rfl rfl (by omega) Tryz.runUnderlying45 Tryz.sizeOf52 rfl) (ah_t 4 (fun w9 hs => hs) rfl rfl (by kernel_rfl) (q_loadXs (SpanD.cells (spA xs k)) rfl Tryz.isAgg52 Tryz.sizeOf52 (fun w9 hs j9 v9 h9 => by rw [addr_add]; exact (hs.below.cell (p := ⟨_, _, none⟩) hlt2).trans ((hget2 k _ hx2) j9 v9 h9)) rfl) (ah_one 5 rfl (by kernel_rfl) (fun hok1 hcl1 => ?_)))
      refine al_call Tryz.call78 (.cons rfl (.cons rfl .nil)) rfl rfl (fun w2 hs2 => ?_)
      refine (lies_any (imA M C t xs k).lo (imA M C t xs k).hi (spA xs k).lo (spA xs k).hi _).mono ?_
      rintro e u2 ⟨rfl, hb_2⟩
      refine ⟨_, rfl, hb_2, ?_⟩
      clear hs2
      refine al_end (ah_back hok1 hcl1 (fun w9 hs => (hs.fewer 1 rfl)) ?_)
      refine ah_t 6 (fun w9 hs => (hs.fewer 1 rfl)) rfl rfl (by kernel_rfl) (q_eql rfl rfl) (ah_done (by kernel_rfl) ?_)
      refine aq_then ?_
      refine ac_cond rfl (fun h3 => ?_) (fun h3 => ?_)
      · have hl : (liesL (imA M C t xs k).lo (imA M C t xs k).hi (spA xs k).lo (spA xs k).hi) = 0 := eq_of_beq h3
        refine ac_seq (ac_region ?_)
        refine al_p (q_move rfl) (al_p (q_assign rfl) (al_p (q_assign rfl) (al_end (aq_then ?_))))
        refine ac_ret (aq_inR (aq_thenR (aq_thenR (aq_inR ?_))))
        refine aq_thenR (ret2 Tryz.results36 rfl rfl (fun w9 hs => ?_))
        exact ⟨_, _, rfl, (fun _ _ => ⟨k, by omega, hl⟩), hs.below⟩
      · skip
        refine ac_skip (aq_inN (aq_then (ac_region ?_)))
        refine al_p (q_add rfl rfl (by omega)) (al_p (q_move rfl) (al_end (aq_then ?_)))
        skip
        refine aq_round (k + 1) (by omega) trivial ⟨rfl, rfl, rfl, rfl, rfl, rfl, trivial⟩ (fun w9 hs => ((hs.fewer 1 rfl).tail 1 rfl))
    · skip
      refine ac_exit (aq_thenE (aq_thenE (aq_hit (aq_then ?_))))
      refine ac_seq (ac_region ?_)
      refine al_p (q_assign rfl) (al_p (q_assign rfl) (al_end (aq_then ?_)))
      refine ac_ret (ret2 Tryz.results36 rfl rfl (fun w9 hs => ?_))
      exact ⟨_, _, rfl, (fun _ h => absurd h (by omega)), hs.below⟩
set_option maxRecDepth 100000 in
theorem own_any (R : MachR) (M : MachD) (Q : CurR) (C : CurD) (g : Int) (J : Option Addr) (nj cj : Nat) (js : List Int) (w : World) (hM : IsM w R M) (hC : IsC w Q C) (hJ : IsT 1 intCells w J nj js) (hv : validC M C = true) (hn : nj = cellN M) (t0 : 1 ≤ g) (t1 : g ≤ 1000000) (hb : ∀ k, k < nj → 0 ≤ iA js k ∧ iA js k ≤ g) : Calls Tryz.prog 37 #[(.agg #[.string M.name, .slice R.A R.la R.ca, .slice R.B R.lb R.cb, .slice R.C R.lc R.cc, .int .i64 M.grid.r, .int .i64 M.grid.z, .int .i64 M.grid.nr, .int .i64 M.grid.nz, .int .i64 M.grid.step, .slice R.D R.ld R.cd, .slice Q.A Q.la Q.ca, .slice Q.B Q.lb Q.cb, .slice Q.C Q.lc Q.cc, .int .i64 g]), (.slice J nj cj)] w (fun e w' => ∃ b : Bool, e = .returned (.bool b) ∧ (b = true → imE M C (lst nj (ptX js)) = 0 ∧ ∀ k, k < nj → (imA M C g (lst nj (ptX js)) k).lo = iA js k ∧ (imA M C g (lst nj (ptX js)) k).hi = iA js k) ∧ Below w.heap.size w w') := by
  have hcn := cellN_eq (fit2_iff.1 hv).check
  have n1 := hJ.1
  refine calls_ax (vs := [(.agg #[.string M.name, .slice R.A R.la R.ca, .slice R.B R.lb R.cb, .slice R.C R.lc R.cc, .int .i64 M.grid.r, .int .i64 M.grid.z, .int .i64 M.grid.nr, .int .i64 M.grid.nz, .int .i64 M.grid.step, .slice R.D R.ld R.cd, .slice Q.A Q.la Q.ca, .slice Q.B Q.lb Q.cb, .slice Q.C Q.lc Q.cc, .int .i64 g]), (.slice J nj cj)]) Tryz.func37 rfl rfl ?_
  refine ac_seq (ac_region ?_)
  refine al_new (fun b => .pointer (some ⟨b, 0, none⟩)) (r_box rfl rfl) rfl rfl rfl ?_
  intro b1
  refine al_p (q_assign rfl) (al_end (aq_then ?_))
  refine ac_seq (ac_region ?_)
  refine al_p (q_fieldAddr 0 rfl Tryz.runUnderlying34 rfl Tryz.sizeOf29 (by decide) rfl) (al_p (q_loadSub (i := 0) rfl rfl Tryz.isAgg29 Tryz.sizeOf29 .k0 .k10) ?_)
  refine al_p (q_fieldAddr 10 rfl Tryz.runUnderlying34 rfl Tryz.sizeOf32 (by decide) rfl) (al_p (q_loadSub (i := 0) rfl rfl Tryz.isAgg32 Tryz.sizeOf32 .k10 .k3) ?_)
  refine al_p (q_fieldAddr 13 rfl Tryz.runUnderlying34 rfl Tryz.sizeOf3 (by decide) rfl) (al_p (q_load (i := 0) rfl rfl rfl Tryz.isAgg3) (al_p (q_move rfl) (al_call Tryz.call79 (.cons rfl (.cons rfl (.cons rfl (.cons rfl .nil)))) rfl rfl (fun w1 hs1 => ?_))))
  refine (rImage_any R M Q C J nj cj js g _ (hM.below hs1.below) (hC.below hs1.below) (hJ.below hs1.below) hv hn t0 t1 hb).mono ?_
  rintro e u1 ⟨A_i, n_i, c_i, rfl, N_i, hb_1⟩
  have hlen : imE M C (lst nj (ptX js)) = 0 → n_i = nj := fun h => by have h9 := N_i.isT.1; rw [imR_of h, lst_length] at h9; omega
  refine ⟨_, rfl, hb_1, ?_⟩
  clear hs1
  refine al_p (q_move rfl) (al_p (q_extract rfl rfl) (al_p (q_extract rfl rfl) (al_p (q_assign rfl) (al_p (q_assign rfl) ?_))))
  refine al_end (aq_then ?_)
  refine ac_seq (ac_seq (ac_region ?_))
  refine al_p (q_assign rfl) (al_end (aq_then ?_))
  refine ac_block (ac_loop (β := Nat) (fun k => k ≤ nj ∧ ∀ j, j < k → (imA M C g (lst nj (ptX js)) j).lo = iA js j ∧ (imA M C g (lst nj (ptX js)) j).hi = iA js j) (fun k => [(1, (.slice J nj cj)), (4, (.bool false)), (5, (.slice A_i n_i c_i)), (6, (.int .i64 (imE M C (lst nj (ptX js))))), (7, (.int .i64 (k : Int)))]) (fun _ => _) (fun k => [(b1, _)]) (fun k => nj - k) 0 ⟨by omega, fun j h => by omega⟩ ⟨rfl, rfl, rfl, rfl, rfl, trivial⟩ (fun w9 hs => hs) (fun k hF1 => ?_))
  refine ac_seq (ac_seq (ac_region ?_))
  refine al_p (q_move rfl) (al_p (q_move rfl) (al_p (q_lenS rfl Tryz.runUnderlying45) (al_p (q_lss rfl rfl) (al_p (q_move rfl) ?_))))
  refine aq_split 23 rfl (fun hb1 => ?_) (fun hb1 => ?_)
  · have hkn : k < n_i := by have := of_decide_eq_true hb1; omega
    refine al_p (q_move rfl) (al_p (q_eql rfl rfl) (al_p (q_pickT rfl rfl) (al_end (aq_then ?_))))
    refine ac_cond rfl (fun h1 => ?_) (fun h1 => ?_)
    · have h0 : imE M C (lst nj (ptX js)) = 0 := eq_of_beq h1
      have hni := hlen h0
      obtain ⟨b_i, o_i, hA_i, hlt_i, hget_i⟩ := N_i.isT.2 (by omega)
      have hx_i : (imR M C g (lst nj (ptX js)))[k]? = some (imA M C g (lst nj (ptX js)) k) := by rw [imR_of h0]; exact lst_get _ (by omega)
      obtain ⟨b21, o21, hA2, hlt2, hget2⟩ := hJ.2 (by omega)
      have hx2 := iA_get (l := js) (k := k) (by omega)
      refine ac_skip (aq_then (ac_seq (ac_block (ac_seq ?_))))
      refine ac_draw 21 (by kernel_rfl) (by kernel_rfl) ?_
      refine ah_t 0 (fun w9 hs => hs) rfl rfl (by kernel_rfl) (q_move rfl) (ah_t 1 (fun w9 hs => hs) rfl rfl (by kernel_rfl) (q_move rfl) ?_)
      refine ah_t 2 (fun w9 hs => hs) rfl rfl (by kernel_rfl) (q_indexAddrA (i := k) (o_i + k * 2 + 0) hA_i rfl rfl rfl (by omega) Tryz.runUnderlying45 Tryz.sizeOf52 rfl) ?_
      refine ah_t 3 (fun w9 hs => hs) rfl rfl (by kernel_rfl) (q_fieldAddr (o_i + k * 2 + 0) rfl Tryz.runUnderlying52 rfl Tryz.sizeOf3 (by decide) rfl) (ah_t 4 (fun w9 hs => hs) rfl rfl (by kernel_rfl) (q_loadX rfl Tryz.isAgg3 (fun w9 hs => (cell_blkx ((hs.snap _ _ (.head _)).2.2.2.1 b_i (N_i.new _ _ hA_i) hlt_i)).trans ((hget_i k _ hx_i) 0 _ rfl))) (ah_t 5 (fun w9 hs => hs) rfl rfl (by kernel_rfl) (q_move rfl) (ah_t 6 (fun w9 hs => hs) rfl rfl (by kernel_rfl) (q_move rfl) ?_)))
      refine ah_t 7 (fun w9 hs => hs) rfl rfl (by kernel_rfl) (q_indexAddrA (i := k) (o21 + k * 1 + 0) hA2 rfl rfl rfl (by omega) Tryz.runUnderlying30 Tryz.sizeOf3 rfl) (ah_t 8 (fun w9 hs => hs) rfl rfl (by kernel_rfl) (q_loadX rfl Tryz.isAgg3 (fun w9 hs => (hs.below.cell (p := ⟨_, _, none⟩) hlt2).trans ((hget2 k _ hx2) 0 _ rfl))) (ah_t 9 (fun w9 hs => hs) rfl rfl (by kernel_rfl) (q_neq rfl rfl) (ah_t 10 (fun w9 hs => hs) rfl rfl (by kernel_rfl) (q_move rfl) ?_)))
      refine ah_split 39 rfl (fun hb2 => ?_) (fun hb2 => ?_)
      · skip
        refine ah_s 11 (fun w9 hs => hs) rfl rfl (by kernel_rfl) (ah_s 12 (fun w9 hs => hs) rfl rfl (by kernel_rfl) (ah_s 13 (fun w9 hs => hs) rfl rfl (by kernel_rfl) (ah_s 14 (fun w9 hs => hs) rfl rfl (by kernel_rfl) (ah_s 15 (fun w9 hs => hs) rfl rfl (by kernel_rfl) ?_))))
        refine ah_s 16 (fun w9 hs => hs) rfl rfl (by kernel_rfl) (ah_s 17 (fun w9 hs => hs) rfl rfl (by kernel_rfl) (ah_s 18 (fun w9 hs => hs) rfl rfl (by kernel_rfl) (ah_s 19 (fun w9 hs => hs) rfl rfl (by kernel_rfl) (ah_s 20 (fun w9 hs => hs) rfl rfl (by kernel_rfl) ?_))))
        refine ah_t 21 (fun w9 hs => hs) rfl rfl (by kernel_rfl) (q_pickT rfl rfl) (ah_done (by kernel_rfl) ?_)
        refine aq_then (ac_condT rfl (ac_seq (ac_region ?_)))
        refine al_p (q_assign rfl) (al_end (aq_then ?_))
        refine ac_ret (aq_inR (aq_thenR (aq_thenR (aq_inR ?_))))
        refine aq_thenR (ret1 Tryz.results37 rfl (fun w9 hs => ?_))
        first | exact ⟨false, rfl, (fun h => by cases h), hs.below⟩ | exact ⟨_, rfl, (fun h => absurd (eq_of_beq h) hne), hs.below⟩ | exact ⟨_, rfl, (fun h => ⟨eq_of_beq h, fun j hj => hF1.2 j (by have := hlen (eq_of_beq h); omega)⟩), hs.below⟩
      · have e1 : (imA M C g (lst nj (ptX js)) k).lo = iA js k := by simpa using hb2
        refine ah_t 11 (fun w9 hs => hs) rfl rfl (by kernel_rfl) (q_move rfl) (ah_t 12 (fun w9 hs => hs) rfl rfl (by kernel_rfl) (q_move rfl) ?_)
        refine ah_t 13 (fun w9 hs => hs) rfl rfl (by kernel_rfl) (q_indexAddrA (i := k) (o_i + k * 2 + 0) hA_i rfl rfl rfl (by omega) Tryz.runUnderlying45 Tryz.sizeOf52 rfl) ?_
        refine ah_t 14 (fun w9 hs => hs) rfl rfl (by kernel_rfl) (q_fieldAddr (o_i + k * 2 + 1) rfl Tryz.runUnderlying52 rfl Tryz.sizeOf3 (by decide) rfl) (ah_t 15 (fun w9 hs => hs) rfl rfl (by kernel_rfl) (q_loadX rfl Tryz.isAgg3 (fun w9 hs => (cell_blkx ((hs.snap _ _ (.head _)).2.2.2.1 b_i (N_i.new _ _ hA_i) hlt_i)).trans ((hget_i k _ hx_i) 1 _ rfl))) (ah_t 16 (fun w9 hs => hs) rfl rfl (by kernel_rfl) (q_move rfl) (ah_t 17 (fun w9 hs => hs) rfl rfl (by kernel_rfl) (q_move rfl) ?_)))
        refine ah_t 18 (fun w9 hs => hs) rfl rfl (by kernel_rfl) (q_indexAddrA (i := k) (o21 + k * 1 + 0) hA2 rfl rfl rfl (by omega) Tryz.runUnderlying30 Tryz.sizeOf3 rfl) (ah_t 19 (fun w9 hs => hs) rfl rfl (by kernel_rfl) (q_loadX rfl Tryz.isAgg3 (fun w9 hs => (hs.below.cell (p := ⟨_, _, none⟩) hlt2).trans ((hget2 k _ hx2) 0 _ rfl))) (ah_t 20 (fun w9 hs => hs) rfl rfl (by kernel_rfl) (q_neq rfl rfl) (ah_t 21 (fun w9 hs => hs) rfl rfl (by kernel_rfl) (q_pickF rfl rfl) (ah_done (by kernel_rfl) ?_))))
        refine aq_then ?_
        refine ac_cond rfl (fun h2 => ?_) (fun h2 => ?_)
        · skip
          refine ac_seq (ac_region ?_)
          refine al_p (q_assign rfl) (al_end (aq_then ?_))
          refine ac_ret (aq_inR (aq_thenR (aq_thenR (aq_inR ?_))))
          refine aq_thenR (ret1 Tryz.results37 rfl (fun w9 hs => ?_))
          first | exact ⟨false, rfl, (fun h => by cases h), hs.below⟩ | exact ⟨_, rfl, (fun h => absurd (eq_of_beq h) hne), hs.below⟩ | exact ⟨_, rfl, (fun h => ⟨eq_of_beq h, fun j hj => hF1.2 j (by have := hlen (eq_of_beq h); omega)⟩), hs.below⟩
        · have e2 : (imA M C g (lst nj (ptX js)) k).hi = iA js k := by simpa using h2
          refine ac_skip (aq_inN (aq_then (ac_region (al_p (q_move rfl) ?_))))
          refine al_p (q_add rfl rfl (by omega)) (al_p (q_assign rfl) (al_end (aq_then ?_)))
          skip
          refine aq_round (k + 1) (by omega) ⟨by omega, fun j h1 => (Nat.lt_or_ge j k).elim (fun g => hF1.2 j g) (fun g => by (have e : j = k := by omega); rw [e]; exact ⟨e1, e2⟩)⟩ ⟨rfl, rfl, rfl, rfl, rfl, trivial⟩ (fun w9 hs => hs)
    · have hne : imE M C (lst nj (ptX js)) ≠ 0 := by simpa using h1
      refine ac_exit (aq_thenE (aq_thenE (aq_hit (aq_then ?_))))
      refine ac_seq (ac_region ?_)
      refine al_p (q_move rfl) (al_p (q_eql rfl rfl) (al_p (q_assign rfl) (al_end (aq_then ?_))))
      refine ac_ret (ret1 Tryz.results37 rfl (fun w9 hs => ?_))
      first | exact ⟨false, rfl, (fun h => by cases h), hs.below⟩ | exact ⟨_, rfl, (fun h => absurd (eq_of_beq h) hne), hs.below⟩ | exact ⟨_, rfl, (fun h => ⟨eq_of_beq h, fun j hj => hF1.2 j (by have := hlen (eq_of_beq h); omega)⟩), hs.below⟩
  · have hkn : ¬ k < n_i := by have := of_decide_eq_false hb1; omega
    refine al_skip rfl rfl rfl (al_skip rfl rfl rfl (al_p (q_pickF rfl rfl) (al_end (aq_then ?_))))
    refine ac_condF rfl (ac_exit (aq_thenE (aq_thenE (aq_hit ?_))))
    refine aq_then (ac_seq (ac_region ?_))
    refine al_p (q_move rfl) (al_p (q_eql rfl rfl) (al_p (q_assign rfl) (al_end (aq_then ?_))))
    refine ac_ret (ret1 Tryz.results37 rfl (fun w9 hs => ?_))
    first | exact ⟨false, rfl, (fun h => by cases h), hs.below⟩ | exact ⟨_, rfl, (fun h => absurd (eq_of_beq h) hne), hs.below⟩ | exact ⟨_, rfl, (fun h => ⟨eq_of_beq h, fun j hj => hF1.2 j (by have := hlen (eq_of_beq h); omega)⟩), hs.below⟩
end
end Go.Proofs.YtogcjgjhmlifgaaGreat
