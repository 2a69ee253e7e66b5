import Derived.Test.YtogcjgjhmlifgaaGreatMBE
import Derived.Test.YtogcjgjhmlifgaaGreatMBI
import Derived.Test.YtogcjgjhmlifgaaGreatRows
import Derived.KernelRfl
import Derived.Laws.StructEq
namespace Go.Proofs.YtogcjgjhmlifgaaGreat
set_option linter.unusedVariables false
set_option linter.unusedSimpArgs false
section
open Go.RowKit
def pA (ps : List PointD) (k : Nat) : PointD := ps.getD k ⟨0, 0⟩
theorem pA_get {ps : List PointD} {k : Nat} (h : k < ps.length) : ps[k]? = some (pA ps k) := getD_get h
structure VaF (P : Option Addr) (np cp : Nat) (ps : List PointD) (bv : Nat) (W : World) : Prop where
  l : IsT 2 PointD.cells W P np ps
  b : ∀ (j : Nat) (v : Value), ([.slice P np cp] : List Value)[j]? = some v → W.cell? ⟨bv, 0 + j, none⟩ = some v
set_option maxRecDepth 100000 in
set_option maxHeartbeats 1000000 in
theorem values1_own (P : Option Addr) (np cp : Nat) (ps : List PointD) (bv : Nat) (X : List Nat) (w : World) (hn : np ≤ 1000) (hF : ∀ W, Kx X w W → VaF P np cp ps bv W) (lbv : bv < w.heap.size) :
    IterOwn Tryz.prog 113 #[.pointer (some ⟨bv, 0, none⟩)] PointD.v (fun _ _ k x _ => x = pA ps k) X 0 np w := by
  intro l J W hw hl hl2 hJ hY h0
  have hF0 := hF W ⟨hw.size, fun b hb _ => hw.block b hb⟩
  have hw0 := hw.size
  have hbvW : bv < W.heap.size := by omega
  have hJ0 : J [] [] 0 W := h0 [] rfl (fun z h => by cases h)
  have n3 := hF0.l.1
  refine callsIn_axM (vs := [.func (.yield l) #[] #[], .pointer (some ⟨bv, 0, none⟩)]) Tryz.func113 rfl rfl ?_
  refine ci_seq ?_
  refine ci_region (Or.inl rfl) (fun ⟨a, w, h⟩ => h) rfl ?_
  refine al_p (q_loadX rfl Tryz.isAgg24 (fun w9 hs => (hs.below.cell (p := ⟨_, _, none⟩) hbvW).trans (hF0.b 0 _ rfl))) (al_p (q_lenS rfl Tryz.runUnderlying24) (al_p (q_move rfl) (al_end (aq_then ?_))))
  refine ci_block ?_
  refine fun a9 V9 hf9 hs9 => wpIn_loop_x (fun (k : Nat) a V => k ≤ np ∧ (∃ Y, (∀ y ∈ Y, W.heap.size ≤ y) ∧ J [] Y (k) V) ∧ Chg (l :: X) W V ∧ Fr ⟨16, [], V, []⟩ [(0, (.func (.yield l) #[] #[])), (5, (.slice P np cp)), (6, (.int .i64 (np : Int))), (7, (.int .i64 (k : Int)))] a) (fun k => np - k) 0 ⟨Nat.zero_le _, ⟨[], (fun y hy => by cases hy), hJ _ _ _ _ _ hJ0 (Mv.of_chg (Chg.of_below _ hs9.below))⟩, Chg.of_below _ hs9.below, hf9.rebase.sub (AllLook.sub ⟨rfl, rfl, rfl, rfl, trivial⟩)⟩ (fun k a V ⟨hk, ⟨Y, hYl, hJk⟩, hC, hf⟩ => ?_)
  have hsV := hC.size
  have hFV := hF V (Kx.of_chg hw hl hC)
  have hsw := hw.size
  have hbv : bv < V.heap.size := by omega
  refine ci_go hf (Sta.start _ _ _) ?_
  refine ci_seq ?_
  refine ci_region (Or.inl rfl) (fun ⟨a, w, h⟩ => h) rfl ?_
  refine al_p (q_lss rfl rfl) (al_end (aq_then ?_))
  refine ci_seq ?_
  refine ci_cond rfl (fun h1 => ?_) (fun h1 => ?_)
  · have hkl : k < np := by have := of_decide_eq_true h1; omega
    obtain ⟨b11, o11, hA1, hlt1, hget1⟩ := hFV.l.2 (by omega)
    have hx1 := pA_get (ps := ps) (k := k) (by omega)
    refine ci_skip ?_
    refine aq_then (ci_seq ?_)
    refine ci_block ?_
    refine ci_seq ?_
    refine ci_region (Or.inl rfl) (fun ⟨a, w, h⟩ => h) rfl ?_
    refine al_p (q_indexAddrA (i := k) (o11 + k * 2 + 0) hA1 rfl rfl rfl (by omega) Tryz.runUnderlying24 Tryz.sizeOf36 rfl) (al_p (q_loadXs (PointD.cells (pA ps k)) rfl Tryz.isAgg36 Tryz.sizeOf36 (fun w9 hs j9 v9 h9 => by rw [addr_add]; exact (hs.below.cell (p := ⟨_, _, none⟩) hlt1).trans ((hget1 k _ hx1) j9 v9 h9)) rfl) (al_new (fun b => .pointer (some ⟨b, 0, none⟩)) (r_alloc Tryz.zeroValue36 rfl) rfl rfl rfl ?_))
    intro b1
    refine al_storeAll (i := 0) rfl rfl rfl rfl Tryz.sizeOf36 rfl rfl .k0 rfl (al_end (aq_then ?_))
    refine ci_seq ?_
    refine ci_regionY ?_
    refine li_q (Or.inl rfl) rfl (q_move rfl) rfl rfl rfl ?_
    refine li_q (Or.inl rfl) rfl (q_loadAll (i := 0) rfl rfl Tryz.isAgg36 Tryz.sizeOf36 rfl) rfl rfl rfl ?_
    refine li_yield (Or.inl rfl) rfl (.cons rfl .nil) rfl rfl (fun w9 hs9 => ?_)
    have hJ9 := hJ _ _ _ _ _ hJk (Mv.of_chg (Chg.of_below _ hs9.below))
    refine (hY [] Y k (pA ps k) w9 (by omega) hJ9 rfl).mono ?_
    rintro e u9 ⟨rfl, Y9, hy9, hyl9, hJu, hCu⟩
    have hC9 := (hC.trans (Chg.of_below (l :: X) hs9.below)).ownx hCu hYl
    have hz9 := hC.size
    have hz8 := hs9.below.size
    refine ⟨_, rfl, ?_⟩
    refine li_q (Or.inl rfl) rfl (q_not rfl) rfl rfl rfl ?_
    refine li_end ?_
    refine aq_then (ci_condF rfl ?_)
    refine ci_skip ?_
    refine aq_inN (aq_then (ci_region (Or.inl rfl) (fun ⟨a, w, h⟩ => h) rfl ?_))
    refine al_p (q_add rfl rfl (by omega)) (al_p (q_move rfl) (al_end (aq_then ?_)))
    exact fun a9 W2 hf9 hs9 => ⟨k + 1, by omega, by omega, ⟨Y9, fun y hy => (hy9 y hy).elim (fun h => hYl y h) (fun h => by omega), hJ _ _ _ _ _ (by exact hJu) (Mv.of_chg (Chg.of_below _ hs9.below))⟩, hC9.trans (Chg.of_below _ hs9.below), hf9.rebase.sub (AllLook.sub ⟨rfl, rfl, rfl, rfl, trivial⟩)⟩
  · have hke : k = np := by have := of_decide_eq_false h1; omega
    refine ci_exit ?_
    refine aq_thenE (aq_thenE (aq_hit (retM Tryz.results113 .nil .zero (fun w9 hs9 => ?_))))
    exact ⟨⟨_, rfl⟩, [], Y, hJ _ _ _ _ _ (by rw [hke] at hJk; exact hJk) (Mv.of_chg (Chg.of_below _ hs9.below))⟩
theorem iter_values {P : Option Addr} {np cp : Nat} {ps : List PointD} {w u : World} {bv : Nat} (hP : IsT 2 PointD.cells w P np ps) (hb : Below w.heap.size w u) (hn : np ≤ 1000) (hg : BoxAt u bv (.cells [.slice P np cp])) :
    ∀ (b : Nat) (v : World), Below u.heap.size u v → u.heap.size ≤ b → b < v.heap.size → IterOwn Tryz.prog 113 #[.pointer (some ⟨bv, 0, none⟩)] PointD.v (fun _ _ k x _ => x = pA ps k) [b] 0 np v := by
  intro b v hv hl hlt
  have hz := hv.size
  have hg1 := hg.lt
  refine values1_own P np cp ps bv [b] v hn (fun W hk => ?_) (by omega)
  have key : ∀ k, k < u.heap.size → W.heap[k]? = u.heap[k]? := fun k h => (hk.block k (by omega) (by simp; omega)).trans (hv.block k h)
  have low : ∀ k, k < w.heap.size → W.heap[k]? = w.heap[k]? := fun k h => (key k (Nat.lt_of_lt_of_le h hb.size)).trans (hb.block k h)
  have sz := hk.size
  have sz2 := hb.size
  exact ⟨hP.keepx (by omega) low, fun j x hj => by rw [Nat.zero_add]; exact (cell_blkx (key _ hg1)).trans (hg.cell _ rfl j x hj).1⟩
set_option maxRecDepth 100000 in
theorem values_any (P : Option Addr) (np cp : Nat) (ps : List PointD) (w : World) : Calls Tryz.prog 74 #[(.slice P np cp)] w (fun e w' => ∃ bv, e = .returned (.func (.func 113) #[] #[.pointer (some ⟨bv, 0, none⟩)]) ∧ Own w [(bv, .cells [.slice P np cp])] w') := by
  refine calls_ax (vs := [(.slice P np cp)]) Tryz.func74 rfl rfl ?_
  refine ac_seq (ac_region ?_)
  refine al_new (fun b => .pointer (some ⟨b, 0, none⟩)) (r_box rfl rfl) rfl rfl rfl ?_
  intro b1
  refine al_p (q_assign rfl) (al_end (aq_then ?_))
  refine ac_seq (ac_region ?_)
  refine al_p (q_makeFunc _ _ .nil (.cons rfl .nil)) (al_p (q_assign rfl) (al_end (aq_then ?_)))
  refine ac_ret (ret1 Tryz.results74 rfl (fun w9 hs => ?_))
  exact ⟨b1, rfl, hs.own (.cons (j := 0) rfl .nil) (by decide)⟩
set_option maxRecDepth 100000 in
theorem nofar_any (P : Option Addr) (np cp : Nat) (ps : List PointD) (w : World) (hP : IsT 2 PointD.cells w P np ps) (hn : np ≤ 1000) (hp : ∀ k, k < np → nearB (pA ps k).r (pA ps k).z 100 = true) : Calls Tryz.prog 71 #[(.slice P np cp), (.func (.func 72) #[] #[])] w (Ret (.bool false) w) := by
  have n1 := hP.1
  refine calls_ax (vs := [(.slice P np cp), (.func (.func 72) #[] #[])]) Tryz.func71 rfl rfl ?_
  refine ac_seq (ac_region ?_)
  refine al_p (q_assign rfl) (al_end (aq_then ?_))
  refine ac_seq (ac_region ?_)
  refine al_p (q_move rfl) (al_p (q_move rfl) (al_inl Tryz.call110 (.cons rfl (.cons rfl .nil)) rfl rfl Tryz.func110 rfl rfl ?_))
  refine ac_seq (ac_region ?_)
  refine al_p (q_assign rfl) (al_end (aq_then ?_))
  refine ac_seq (ac_seq (ac_region ?_))
  refine al_p (q_move rfl) (al_p (q_lenS rfl Tryz.runUnderlying24) (al_p (q_move rfl) (al_end (aq_then ?_))))
  refine ac_block ?_
  refine ac_loop (β := Nat) (fun k => k ≤ np) (fun k => [(0, (.slice P np cp)), (1, (.func (.func 72) #[] #[])), (4, (.int .i64 0)), (7, (.int .i64 (np : Int))), (8, (.int .i64 (k : Int)))]) (fun _ => _) (fun k => []) (fun k => np - k) 0 (by omega) ⟨rfl, rfl, rfl, rfl, rfl, trivial⟩ (fun w9 hs => hs) (fun k hF1 => ?_)
  refine ac_seq (ac_region ?_)
  refine al_p (q_lss rfl rfl) (al_end (aq_then ?_))
  refine ac_seq ?_
  refine ac_cond rfl (fun h1 => ?_) (fun h1 => ?_)
  · have hkn : k < np := by have := of_decide_eq_true h1; omega
    obtain ⟨⟨v1, v2⟩, v3, v4⟩ := near_iff.1 (hp k hkn)
    obtain ⟨b11, o11, hA1, hlt1, hget1⟩ := hP.2 (by omega)
    have hx1 := pA_get (ps := ps) (k := k) (by omega)
    refine ac_skip (aq_then (ac_seq (ac_block (ac_seq (ac_region ?_)))))
    refine al_p (q_move rfl) (al_p (q_assign rfl) (al_end (aq_then ?_)))
    refine ac_seq (ac_region ?_)
    refine al_p (q_move rfl) (al_p (q_move rfl) (al_p (q_move rfl) ?_))
    refine al_p (q_indexAddrA (i := k) (o11 + k * 2 + 0) hA1 rfl rfl rfl (by omega) Tryz.runUnderlying24 Tryz.sizeOf36 rfl) (al_p (q_loadXs (PointD.cells (pA ps k)) rfl Tryz.isAgg36 Tryz.sizeOf36 (fun w9 hs j9 v9 h9 => by rw [addr_add]; exact (hs.below.cell (p := ⟨_, _, none⟩) hlt1).trans ((hget1 k _ hx1) j9 v9 h9)) rfl) (al_inlV (fi := []) (ca := []) rfl Tryz.call72 (.cons rfl .nil) rfl rfl Tryz.func72 rfl rfl ?_))
    refine ac_seq (ac_region ?_)
    refine al_new (fun b => .pointer (some ⟨b, 0, none⟩)) (r_box rfl rfl) rfl rfl rfl ?_
    intro b1
    refine al_p (q_assign rfl) (al_end (aq_then ?_))
    refine ac_seq (ac_region ?_)
    refine al_p (q_fieldAddr 0 rfl Tryz.runUnderlying36 rfl Tryz.sizeOf3 (by decide) rfl) (al_p (q_load (i := 0) rfl rfl rfl Tryz.isAgg3) (al_call Tryz.call46 (.cons rfl (.cons rfl (.cons rfl .nil))) rfl rfl (fun w1 hs1 => ?_)))
    refine (wth_yes (pA ps k).r (-100) 100 _ (by omega) (by omega)).mono ?_
    rintro e u1 ⟨rfl, hb_1⟩
    refine ⟨_, rfl, hb_1, ?_⟩
    clear hs1
    refine al_p (q_not rfl) (al_p (q_move rfl) ?_)
    refine al_p (q_fieldAddr 1 rfl Tryz.runUnderlying36 rfl Tryz.sizeOf3 (by decide) rfl) (al_p (q_load (i := 0) rfl rfl rfl Tryz.isAgg3) (al_call Tryz.call46 (.cons rfl (.cons rfl (.cons rfl .nil))) rfl rfl (fun w2 hs2 => ?_)))
    refine (wth_yes (pA ps k).z (-100) 100 _ (by omega) (by omega)).mono ?_
    rintro e u2 ⟨rfl, hb_2⟩
    refine ⟨_, rfl, hb_2, ?_⟩
    clear hs2
    refine al_p (q_not rfl) (al_p (q_pickF rfl rfl) (al_p (q_assign rfl) (al_end (aq_then ?_))))
    refine ac_ret (retI Tryz.results72 (.tmp rfl .nil) .one ?_)
    refine al_end (aq_then ?_)
    refine ac_condF rfl (ac_skip (aq_inN (aq_then (ac_region ?_))))
    refine al_p (q_add rfl rfl (by omega)) (al_p (q_move rfl) (al_end (aq_then ?_)))
    skip
    refine aq_round (k + 1) (by omega) (by omega) ⟨rfl, rfl, rfl, rfl, rfl, trivial⟩ (fun w9 hs => ((hs.fewer 2 rfl).tail 1 rfl))
  · skip
    refine ac_exit (aq_thenE (aq_thenE (aq_hit (aq_then ?_))))
    refine ac_seq (ac_region ?_)
    refine al_p (q_assign rfl) (al_end (aq_then ?_))
    refine ac_ret (retI Tryz.results110 (.tmp rfl .nil) .one ?_)
    refine al_p (q_geq rfl rfl) (al_p (q_assign rfl) (al_end (aq_then ?_)))
    refine ac_ret (ret1 Tryz.results71 rfl (fun w9 hs => ?_))
    exact ⟨rfl, hs.below⟩
theorem checkBnY (R : MachR) (M : MachD) (Q : CurR) (C : CurD) (X : Option Addr) (nx cx : Nat) (xs : List SpanD) (w : World) (hM : IsM w R M) (hC : IsC w Q C) (hS : IsT 2 SpanD.cells w X nx xs) (hok : bnE M C xs = 0) : Calls Tryz.prog 59 #[.agg (mCs R M).toArray, .agg (cCs Q).toArray, .int .i64 1000000, .slice X nx cx] w (Ret (.int .i64 0) w) := by
  have h := checkBn_any R M Q C X nx cx xs w hM hC hS
  rwa [hok] at h
set_option maxRecDepth 100000 in
theorem fluxes5_any (R : MachR) (M : MachD) (Q : CurR) (C : CurD)   (X : Option Addr) (nx cx : Nat) (xs : List SpanD)     (P : Option Addr) (np cp : Nat) (ps : List PointD) (w : World) (hM : IsM w R M) (hC : IsC w Q C) (hS : IsT 2 SpanD.cells w X nx xs) (hP : IsT 2 PointD.cells w P np ps) (hok : bnE M C xs = 0) (hn : np ≤ 1000) (hp : ∀ k, k < np → nearB (pA ps k).r (pA ps k).z 100 = true) : Calls Tryz.prog 32 #[(.agg (mCs R M).toArray), (.agg (cCs Q).toArray), (.slice X nx cx), (.slice P np cp)] w (fun e w' => ∃ A c, e = .returned (.tuple #[.slice A np c, .int .i64 0]) ∧ NewT 2 SpanD.cells w.heap.size w' A np c (lst np (fun k => flS M C xs (pA ps k))) ∧ Below w.heap.size w w') := by
  obtain ⟨hf, hX, -⟩ := bn_ok hok
  have ht : (1000000 : Int) ≤ 1000000 := by omega
  refine calls_ax (vs := [(.agg (mCs R M).toArray), (.agg (cCs Q).toArray), (.slice X nx cx), (.slice P np cp)]) Tryz.func32 rfl rfl ?_
  refine ac_seq (ac_region ?_)
  refine al_new (fun b => .pointer (some ⟨b, 0, none⟩)) (r_box rfl rfl) rfl rfl rfl ?_
  intro b1
  refine al_new (fun b => .pointer (some ⟨b, 0, none⟩)) (r_box rfl rfl) rfl rfl rfl ?_
  intro b2
  refine al_p (q_assign rfl) (al_p (q_assign rfl) (al_end (aq_then ?_)))
  refine ac_seq (ac_seq (ac_region ?_))
  refine al_p (q_loadAll (i := 1) rfl rfl Tryz.isAgg29 Tryz.sizeOf29 rfl) (al_p (q_loadAll (i := 0) rfl rfl Tryz.isAgg32 Tryz.sizeOf32 rfl) (al_p (q_move rfl) (al_call Tryz.call59 (.cons rfl (.cons rfl (.cons rfl (.cons rfl .nil)))) rfl rfl (fun w1 hs1 => ?_))))
  refine (checkBnY R M Q C X nx cx xs _ (hM.below hs1.below) (hC.below hs1.below) (hS.below hs1.below) hok).mono ?_
  rintro e u1 ⟨rfl, hb_1⟩
  refine ⟨_, rfl, hb_1, ?_⟩
  clear hs1
  refine al_p (q_assign rfl) (al_end (aq_then ?_))
  refine ac_seq (ac_region ?_)
  refine al_p (q_move rfl) ?_
  refine al_p (q_same (v' := .bool false) (q_neq rfl rfl) (by simp)) (al_end (aq_then ?_))
  refine ac_condF rfl (ac_skip (aq_then (ac_seq (ac_seq (ac_region ?_)))))
  refine al_p (q_move rfl) (al_p (q_lenS rfl Tryz.runUnderlying24) ?_)
  refine al_p (q_same (v' := .bool false) (q_gtr rfl rfl) (by congr 1; exact decide_eq_false (by omega))) (al_end (aq_then ?_))
  refine ac_condF rfl (ac_skip (aq_then (ac_seq (ac_seq (ac_region ?_)))))
  refine al_p (q_move rfl) (al_call Tryz.call71 (.cons rfl (.cons rfl .nil)) rfl rfl (fun w2 hs2 => ?_))
  refine (nofar_any P np cp ps _ (hP.below hs2.below) hn hp).mono ?_
  rintro e u2 ⟨rfl, hb_2⟩
  refine ⟨_, rfl, hb_2, ?_⟩
  clear hs2
  refine al_end (aq_then ?_)
  refine ac_condF rfl (ac_skip (aq_then (ac_seq (ac_draw 8 (by kernel_rfl) (by kernel_rfl) ?_))))
  refine ah_t 0 (fun w9 hs => hs) rfl rfl (by kernel_rfl) (q_loadAll (i := 1) rfl rfl Tryz.isAgg29 Tryz.sizeOf29 rfl) (ah_t 1 (fun w9 hs => hs) rfl rfl (by kernel_rfl) (q_loadAll (i := 0) rfl rfl Tryz.isAgg32 Tryz.sizeOf32 rfl) (ah_t 2 (fun w9 hs => hs) rfl rfl (by kernel_rfl) (q_move rfl) (ah_t 5 (fun w9 hs => hs) rfl rfl (by kernel_rfl) (q_move rfl) (ah_one 3 rfl (by kernel_rfl) (fun hok1 hcl1 => ?_)))))
  refine al_callS Tryz.call74 (.cons rfl .nil) rfl rfl (fun w3 hs3 => ?_)
  refine (values_any P np cp ps _).mono ?_
  rintro e u3 ⟨bv, rfl, hb_3⟩
  refine ⟨_, _, _, rfl, hs3.gift hb_3, ?_⟩
  refine al_end (ah_back hok1 hcl1 (fun w9 hs => (hs.tail 1 rfl)) ?_)
  refine ah_one 4 rfl (by kernel_rfl) (fun hok2 hcl2 => ?_)
  refine al_call Tryz.call73 (.cons rfl (.cons rfl (.cons rfl .nil))) rfl rfl (fun w4 hs4 => ?_)
  refine (fieldAt_any R M Q C _ (hM.below hs4.below) (hC.below hs4.below) hf (pA ps) _ _ np hn hp Tryz.call113 (iter_values hP hs4.below hn (hs4.at 0 rfl))).mono ?_
  rintro e u4 ⟨A1, c1, A2, c2, rfl, k1_, k2_, hb_4⟩
  have hc2 := k2_.le.1
  refine ⟨_, rfl, hb_4, ?_⟩
  clear hs4
  refine al_end (ah_back hok2 hcl2 (fun w9 hs => ((hs.fewer 1 rfl).tail 1 rfl)) ?_)
  refine ah_one 6 rfl (by kernel_rfl) (fun hok3 hcl3 => ?_)
  refine al_callS Tryz.call75 (.cons rfl (.cons rfl .nil)) rfl rfl (fun w5 hs5 => ?_)
  refine (fluxes_any M C (pA ps) np A1 A2 X c1 c2 nx cx xs 1000000 _ hf hX ht (hs5.newT (.head _) k1_) (hs5.newT (.head _) k2_) hc2 (hS.below hs5.below) hn).mono ?_
  rintro e u5 ⟨bF, rfl, hb_5⟩
  refine ⟨_, _, _, rfl, hs5.gift hb_5, ?_⟩
  refine al_end (ah_back hok3 hcl3 (fun w9 hs => ((hs.fewer 1 rfl).tail 2 rfl)) ?_)
  refine ah_t 7 (fun w9 hs => ((hs.fewer 1 rfl).tail 2 rfl)) rfl rfl (by kernel_rfl) (q_assign rfl) (ah_t 8 (fun w9 hs => ((hs.fewer 1 rfl).tail 2 rfl)) rfl rfl (by kernel_rfl) (q_assign rfl) (ah_done (by kernel_rfl) ?_))
  refine aq_then (ac_ret (ret2 Tryz.results32 rfl rfl (fun w9 hs => ?_)))
  exact ⟨_, _, rfl, ⟨isT_box0 (n := 2) (enc := SpanD.cells) (zs := lst np (fun k => flS M C xs (pA ps k))) (fun _ => rfl) (hs.at 0 rfl) (flat_spx _ _) (lst_length _ _), hs.new 0 rfl, by omega, by omega⟩, hs.below⟩
theorem eqw_bl_apiSpan_ : ∀ w, (Instr.build 52 #[]).run Tryz.prog w = .ok (.agg #[(.int .i64 0), (.int .i64 0)]) w := by
  intro w; simp [Instr.build, Instr.fill, cells_agg, Tryz.runUnderlying52, Tryz.zeroValue52, Tryz.sizeOf3]
set_option maxRecDepth 100000 in
theorem boundary5_any (R : MachR) (M : MachD) (Q : CurR) (C : CurD)   (X : Option Addr) (nx cx : Nat) (xs : List SpanD) (w : World) (hM : IsM w R M) (hC : IsC w Q C) (hS : IsT 2 SpanD.cells w X nx xs) (hlx : nx ≤ 1000000000000000) : Calls Tryz.prog 33 #[(.agg (mCs R M).toArray), (.agg (cCs Q).toArray), (.slice X nx cx)] w (Ret (.tuple #[.agg #[.int .i64 (bnS M C xs).lo, .int .i64 (bnS M C xs).hi], .int .i64 (bnE M C xs)]) w) := by
  refine calls_ax (vs := [(.agg (mCs R M).toArray), (.agg (cCs Q).toArray), (.slice X nx cx)]) Tryz.func33 rfl rfl ?_
  refine ac_seq (ac_region ?_)
  refine al_new (fun b => .pointer (some ⟨b, 0, none⟩)) (r_box rfl rfl) rfl rfl rfl ?_
  intro b1
  refine al_new (fun b => .pointer (some ⟨b, 0, none⟩)) (r_box rfl rfl) rfl rfl rfl ?_
  intro b2
  refine al_new (fun b => .pointer (some ⟨b, 0, none⟩)) (r_alloc Tryz.zeroValue52 rfl) rfl rfl rfl ?_
  intro b3
  refine al_p (q_assign rfl) (al_end (aq_then ?_))
  refine ac_seq (ac_seq (ac_region ?_))
  refine al_p (q_loadAll (i := 2) rfl rfl Tryz.isAgg29 Tryz.sizeOf29 rfl) (al_p (q_loadAll (i := 1) rfl rfl Tryz.isAgg32 Tryz.sizeOf32 rfl) (al_p (q_move rfl) (al_call Tryz.call59 (.cons rfl (.cons rfl (.cons rfl (.cons rfl .nil)))) rfl rfl (fun w1 hs1 => ?_))))
  refine (checkBn_any R M Q C X nx cx xs _ (hM.below hs1.below) (hC.below hs1.below) (hS.below hs1.below)).mono ?_
  rintro e u1 ⟨rfl, hb_1⟩
  refine ⟨_, rfl, hb_1, ?_⟩
  clear hs1
  refine al_p (q_assign rfl) (al_end (aq_then ?_))
  refine ac_seq (ac_region ?_)
  refine al_p (q_move rfl) (al_p (q_neq rfl rfl) (al_end (aq_then ?_)))
  refine ac_cond rfl (fun h1 => ?_) (fun h1 => ?_)
  · have hne := bne_iff_ne.1 h1
    obtain ⟨e1, e2⟩ := bn_bad hne
    have e3 : bnS M C xs = ⟨0, 0⟩ := if_neg (by rw [e1]; decide)
    refine ac_seq (ac_region ?_)
    refine al_p (q_build .nil (eqw_bl_apiSpan_)) (al_p (q_move rfl) (al_storeAll (i := 0) rfl rfl rfl rfl Tryz.sizeOf52 rfl rfl .k0 rfl (al_p (q_assign rfl) (al_end (aq_then ?_)))))
    refine ac_ret (aq_thenR (retR Tryz.results33 (.agg (i := 0) rfl rfl Tryz.isAgg52 Tryz.sizeOf52 rfl (.tmp rfl .nil)) .two (fun w9 hs => ?_)))
    rw [e3]; exact ⟨rfl, hs.below⟩
  · have hok : bnE M C xs = 0 := by simpa using h1
    obtain ⟨hf, hX, e1⟩ := bn_ok hok
    have hcn := cellN_eq hX.check
    have ht : (1000000 : Int) ≤ 1000000 := by omega
    have n1 := hS.1
    have n2 := hX.len
    have n3 := hM.limits.1
    have hlp := limits_pos hX.check
    have hlm := limits_most hX.check
    have hpm : ptN M - nx = R.lc ∧ nx ≤ ptN M := by unfold ptN; omega
    refine ac_skip (aq_then (ac_seq (ac_region ?_)))
    refine al_p (q_loadAll (i := 2) rfl rfl Tryz.isAgg29 Tryz.sizeOf29 rfl) (al_p (q_loadAll (i := 1) rfl rfl Tryz.isAgg32 Tryz.sizeOf32 rfl) (al_call Tryz.call60 (.cons rfl (.cons rfl .nil)) rfl rfl (fun w2 hs2 => ?_)))
    refine (fieldOf_any R M Q C _ (hM.below hs2.below) (hC.below hs2.below) hf).mono ?_
    rintro e u2 ⟨A1, c1, A2, c2, rfl, k1_, k2_, hb_2⟩
    have hc2 := k2_.le.1
    refine ⟨_, rfl, hb_2, ?_⟩
    clear hs2
    refine al_p (q_move rfl) (al_callS Tryz.call61 (.cons rfl (.cons rfl .nil)) rfl rfl (fun w3 hs3 => ?_))
    refine (parts_any M C A1 A2 X c1 c2 nx cx xs 1000000 _ hf hX ht (hs3.newT (.head _) k1_) (hs3.newT (.head _) k2_) hc2 (hS.below hs3.below)).mono ?_
    rintro e u3 ⟨bF, rfl, hb_3⟩
    refine ⟨_, _, _, rfl, hs3.gift hb_3, ?_⟩
    refine al_p (q_move rfl) (al_p (q_extract rfl rfl) (al_p (q_extract rfl rfl) (al_p (q_extract rfl rfl) (al_new (fun b => .pointer (some ⟨b, 0, none⟩)) (r_alloc Tryz.zeroValue52 rfl) rfl rfl rfl ?_))))
    intro b4
    refine al_p (q_assign rfl) (al_p (q_assign rfl) (al_storeAll (i := 0) rfl rfl rfl rfl Tryz.sizeOf52 rfl rfl .k0 rfl (al_end (aq_then ?_))))
    refine ac_seq (ac_region ?_)
    refine al_p (q_loadAll (i := 0) rfl rfl Tryz.isAgg52 Tryz.sizeOf52 rfl) (al_storeAll (i := 2) rfl rfl rfl rfl Tryz.sizeOf52 rfl rfl .k2 rfl (al_p (q_assign rfl) (al_end (aq_then ?_))))
    refine ac_ret (retR Tryz.results33 (.agg (i := 2) rfl rfl Tryz.isAgg52 Tryz.sizeOf52 rfl (.tmp rfl .nil)) .two (fun w9 hs => ?_))
    rw [hok, e1]; exact ⟨rfl, hs.below⟩
end
section
open Go.RowKit
def land64 (x y : Int) : Int := IntKind.i64.wrap ((BitVec.ofInt 64 x &&& BitVec.ofInt 64 y).toNat : Int)
section
variable {P : Program} {e0 : Cfg} {U : Snaps} {l : Slots} {L : Boxes}
theorem q_and {xt yt : TypeId} {ox oy : Operand} {x y : Int} {ty : TypeId} {pos : String} {af : Array Edge} {g : Option (Nat × Bool)} {dd : Option Nat} (hx : E l ox = some (.int .i64 x)) (hy : E l oy = some (.int .i64 y)) : Q1 P e0 U l L ⟨dd, .binOp .and xt ox oy yt, ty, pos, af, g⟩ (.int .i64 (land64 x y)) := by
  intro a w hf hs
  simp [execOp, hf.ev hx, hf.ev hy, eqGuard, binOp, Op.intBits, land64, Bind.bind, Sem.bind, Sem.run, pure]
  rfl
end
theorem land_bd (x : Int) : 0 ≤ land64 x 16777215 ∧ land64 x 16777215 ≤ 16777215 := by
  have h : (BitVec.ofInt 64 x &&& BitVec.ofInt 64 16777215).toNat ≤ 16777215 := by
    rw [BitVec.toNat_and]
    exact Nat.le_trans Nat.and_le_right (by decide)
  unfold land64
  rw [IntKind.wrap_i64]
  omega
def pik (js : List Int) (k : Nat) : Int := if k < js.length then land64 (iA js k) 16777215 else 0
theorem pik_bd (js : List Int) (k : Nat) : 0 ≤ pik js k ∧ pik js k ≤ 16777215 := by
  unfold pik
  split
  · exact land_bd _
  · omega
def pkA (xs : List SpanD) (js : List Int) (k : Nat) : Int := (spA xs k).lo + (pik js k).tmod ((spA xs k).hi - (spA xs k).lo + 1)
theorem tmod_bd {a b : Int} (ha : 0 ≤ a) (hb : 1 ≤ b) : 0 ≤ a.tmod b ∧ a.tmod b < b := ⟨Int.tmod_nonneg _ ha, Int.tmod_lt_of_pos _ (by omega)⟩
theorem pkA_bd {xs : List SpanD} {js : List Int} {k : Nat} (h : (spA xs k).lo ≤ (spA xs k).hi) : (spA xs k).lo ≤ pkA xs js k ∧ pkA xs js k ≤ (spA xs k).hi := by
  have h1 := tmod_bd (pik_bd js k).1 (show 1 ≤ (spA xs k).hi - (spA xs k).lo + 1 by omega)
  unfold pkA; omega
def pkC (xs : List SpanD) (js : List Int) (k : Nat) : List Value := (lst k (pkA xs js)).flatMap intCells
theorem pkC_succ (xs : List SpanD) (js : List Int) (k : Nat) : pkC xs js (k + 1) = pkC xs js k ++ [.int .i64 (pkA xs js k)] := by unfold pkC; rw [lst_snoc, List.flatMap_append]; simp [intCells]
theorem eqx_bs_int_1_0_ (a0 : Value) (ha0 : a0.oneCell' = true) : ∀ w, (Instr.buildSlice 30 1 #[(0, a0)]).run Tryz.prog w = .ok (.slice (some ⟨w.heap.size, 0, none⟩) 1 1) (w.alloc (.cells [a0].toArray 3)) := by
  have ea0 : a0.cells = #[a0] := cells_one ha0
  intro w; (simp [Instr.buildSlice, Instr.fill, cells_agg, newRow, Tryz.runUnderlying30, Tryz.zeroValue3, Tryz.sizeOf3, ea0] <;> (rw [(by kernel_rfl : Array.range 1 = #[0])]; simp [Value.cells]))
set_option maxRecDepth 100000 in
theorem picked_any (X : Option Addr) (nx cx : Nat) (xs : List SpanD) (J : Option Addr) (nj cj : Nat) (js : List Int) (w : World) (hS : IsT 2 SpanD.cells w X nx xs) (hJ : IsT 1 intCells w J nj js) (hn : nx ≤ 1000) (hb : ∀ k, k < nx → 0 ≤ (spA xs k).lo ∧ (spA xs k).lo ≤ (spA xs k).hi ∧ (spA xs k).hi ≤ 1000000) : Calls Tryz.prog 31 #[(.slice X nx cx), (.slice J nj cj)] w (fun e w' => ∃ A c, e = .returned (.slice A nx c) ∧ NewT 1 intCells w.heap.size w' A nx c (lst nx (pkA xs js)) ∧ Below w.heap.size w w') := by
  have n1 := hS.1
  have n2 := hJ.1
  refine calls_ax (vs := [(.slice X nx cx), (.slice J nj cj)]) Tryz.func31 rfl rfl ?_
  refine ac_seq (ac_region ?_)
  refine al_p (q_assign rfl) (al_end (aq_then ?_))
  refine ac_seq (ac_region ?_)
  refine al_p (q_assign rfl) (al_end (aq_then ?_))
  refine ac_seq (ac_seq (ac_region ?_))
  refine al_p (q_assign rfl) (al_end (aq_then ?_))
  refine ac_block ?_
  refine ac_loop (β := Nat × Gr) (fun p => p.1 ≤ nx ∧ gok p.2 p.1 1 (pkC xs js p.1)) (fun p => [(0, (.slice X nx cx)), (1, (.slice J nj cj)), (4, (.slice none 0 0)), (5, (.slice (gA p.2) p.1 (gC p.2))), (6, (.int .i64 (p.1 : Int)))]) (fun _ => _) (fun p => (gt p.2 (pkC xs js p.1) ++ ([]))) (fun p => nx - p.1) (0, none) ⟨Nat.zero_le _, gok.none 1⟩ ⟨rfl, rfl, rfl, rfl, rfl, trivial⟩ (fun w9 hs => (by rw [show gt none (pkC xs js 0) = [] from rfl, List.nil_append]; exact hs)) (fun p hF1 => ?_)
  obtain ⟨hpx, hgp⟩ := hF1
  refine ac_seq (ac_seq (ac_region ?_))
  refine al_p (q_move rfl) (al_p (q_move rfl) (al_p (q_lenS rfl Tryz.runUnderlying45) (al_p (q_lss rfl rfl) (al_end (aq_then ?_)))))
  refine ac_cond rfl (fun h1 => ?_) (fun h1 => ?_)
  · have hkn : p.1 < nx := by have := of_decide_eq_true h1; omega
    obtain ⟨b11, o11, hA1, hlt1, hget1⟩ := hS.2 (by omega)
    have hx1 := spA_get (x := xs) (k := p.1) (by omega)
    have hbk := hb p.1 hkn
    refine ac_skip (aq_then (ac_seq (ac_block (ac_seq (ac_region ?_)))))
    refine al_p (q_assign rfl) (al_end (aq_then ?_))
    refine ac_seq (ac_seq (ac_region ?_))
    refine al_p (q_move rfl) (al_p (q_move rfl) (al_p (q_lenS rfl Tryz.runUnderlying30) (al_p (q_lss rfl rfl) (al_end (aq_then ?_)))))
    refine ac_cond rfl (fun h2 => ?_) (fun h2 => ?_)
    · have hkj : p.1 < nj := by have := of_decide_eq_true h2; omega
      obtain ⟨b21, o21, hA2, hlt2, hget2⟩ := hJ.2 (by omega)
      have hx2 := iA_get (l := js) (k := p.1) (by omega)
      have hv : (spA xs p.1).lo + Int.tmod (land64 (iA js p.1) 16777215) ((spA xs p.1).hi - (spA xs p.1).lo + 1) = pkA xs js p.1 := by unfold pkA pik; rw [if_pos (by omega)]
      have hm := tmod_bd (b := ((spA xs p.1).hi - (spA xs p.1).lo + 1)) (show 0 ≤ (land64 (iA js p.1) 16777215) from (land_bd _).1) (by omega)
      refine ac_region (al_p (q_move rfl) (al_p (q_move rfl) ?_))
      refine al_p (q_indexAddrA (i := p.1) (o21 + p.1 * 1 + 0) hA2 rfl rfl rfl (by omega) Tryz.runUnderlying30 Tryz.sizeOf3 rfl) (al_p (q_loadX rfl Tryz.isAgg3 (fun w9 hs => (hs.below.cell (p := ⟨_, _, none⟩) hlt2).trans ((hget2 p.1 _ hx2) 0 _ rfl))) (al_p (q_and rfl rfl) (al_p (q_assign rfl) (al_end (aq_then ?_)))))
      refine ac_drawF 23 .z (by kernel_rfl) (by kernel_rfl) ?_
      refine ah_t 0 (fun w9 hs => (hs.front (.z))) rfl rfl (by kernel_rfl) (q_move rfl) (ah_t 1 (fun w9 hs => (hs.front (.z))) rfl rfl (by kernel_rfl) (q_move rfl) (ah_t 2 (fun w9 hs => (hs.front (.z))) rfl rfl (by kernel_rfl) (q_move rfl) ?_))
      refine ah_t 3 (fun w9 hs => (hs.front (.z))) rfl rfl (by kernel_rfl) (q_indexAddrA (i := p.1) (o11 + p.1 * 2 + 0) hA1 rfl rfl rfl (by omega) Tryz.runUnderlying45 Tryz.sizeOf52 rfl) ?_
      refine ah_t 4 (fun w9 hs => (hs.front (.z))) rfl rfl (by kernel_rfl) (q_fieldAddr (o11 + p.1 * 2 + 0) rfl Tryz.runUnderlying52 rfl Tryz.sizeOf3 (by decide) rfl) (ah_t 5 (fun w9 hs => (hs.front (.z))) rfl rfl (by kernel_rfl) (q_loadX rfl Tryz.isAgg3 (fun w9 hs => (hs.below.cell (p := ⟨_, _, none⟩) hlt1).trans ((hget1 p.1 _ hx1) 0 _ rfl))) (ah_t 6 (fun w9 hs => (hs.front (.z))) rfl rfl (by kernel_rfl) (q_move rfl) (ah_t 7 (fun w9 hs => (hs.front (.z))) rfl rfl (by kernel_rfl) (q_move rfl) (ah_t 8 (fun w9 hs => (hs.front (.z))) rfl rfl (by kernel_rfl) (q_move rfl) ?_))))
      refine ah_t 9 (fun w9 hs => (hs.front (.z))) rfl rfl (by kernel_rfl) (q_indexAddrA (i := p.1) (o11 + p.1 * 2 + 0) hA1 rfl rfl rfl (by omega) Tryz.runUnderlying45 Tryz.sizeOf52 rfl) ?_
      refine ah_t 10 (fun w9 hs => (hs.front (.z))) rfl rfl (by kernel_rfl) (q_fieldAddr (o11 + p.1 * 2 + 1) rfl Tryz.runUnderlying52 rfl Tryz.sizeOf3 (by decide) rfl) (ah_t 11 (fun w9 hs => (hs.front (.z))) rfl rfl (by kernel_rfl) (q_loadX rfl Tryz.isAgg3 (fun w9 hs => (hs.below.cell (p := ⟨_, _, none⟩) hlt1).trans ((hget1 p.1 _ hx1) 1 _ rfl))) (ah_t 12 (fun w9 hs => (hs.front (.z))) rfl rfl (by kernel_rfl) (q_move rfl) (ah_t 13 (fun w9 hs => (hs.front (.z))) rfl rfl (by kernel_rfl) (q_move rfl) ?_)))
      refine ah_t 14 (fun w9 hs => (hs.front (.z))) rfl rfl (by kernel_rfl) (q_indexAddrA (i := p.1) (o11 + p.1 * 2 + 0) hA1 rfl rfl rfl (by omega) Tryz.runUnderlying45 Tryz.sizeOf52 rfl) ?_
      refine ah_t 15 (fun w9 hs => (hs.front (.z))) rfl rfl (by kernel_rfl) (q_fieldAddr (o11 + p.1 * 2 + 0) rfl Tryz.runUnderlying52 rfl Tryz.sizeOf3 (by decide) rfl) (ah_t 16 (fun w9 hs => (hs.front (.z))) rfl rfl (by kernel_rfl) (q_loadX rfl Tryz.isAgg3 (fun w9 hs => (hs.below.cell (p := ⟨_, _, none⟩) hlt1).trans ((hget1 p.1 _ hx1) 0 _ rfl))) ?_)
      refine ah_t 17 (fun w9 hs => (hs.front (.z))) rfl rfl (by kernel_rfl) (q_sub rfl rfl (by omega)) ?_
      refine ah_t 18 (fun w9 hs => (hs.front (.z))) rfl rfl (by kernel_rfl) (q_add rfl rfl (by omega)) ?_
      refine ah_t 19 (fun w9 hs => (hs.front (.z))) rfl rfl (by kernel_rfl) (q_rem rfl rfl (by omega)) ?_
      refine ah_t 20 (fun w9 hs => (hs.front (.z))) rfl rfl (by kernel_rfl) (q_add rfl rfl (by omega)) (ah_one 21 rfl (by kernel_rfl) (fun hok1 hcl1 => ?_))
      refine al_new (fun b => .slice (some ⟨b, 0, none⟩) 1 1) (r_buildSlice (.cons rfl .nil) (eqx_bs_int_1_0_ _ rfl)) rfl rfl rfl ?_
      intro b1
      refine al_end (ah_back hok1 hcl1 (fun w9 hs => ((hs.tail 1 rfl).front (.z))) ?_)
      refine ah_one 22 rfl (by kernel_rfl) (fun hok2 hcl2 => ?_)
      refine al_grow (z := 1) (bytes := 8) (zv := (.int .i64 0)) (o := p.2) (cs := (pkC xs js p.1)) (vs := [.int .i64 ((spA xs p.1).lo + Int.tmod (land64 (iA js p.1) 16777215) ((spA xs p.1).hi - (spA xs p.1).lo + 1))]) rfl rfl (.s (.z)) hgp (Sor.box (j := 0) rfl rfl rfl) Tryz.underlying30 (by kernel_rfl) rfl (by omega) (by decide) rfl rfl (fun o_1 g_1 => ?_)
      refine ⟨_, (.s (.z)), ?_⟩
      refine al_end (ah_back hok2 hcl2 (fun w9 hs => ((hs.tail 1 rfl).front (.z))) ?_)
      refine ah_one 23 rfl (by kernel_rfl) (fun hok3 hcl3 => ?_)
      refine al_p (q_assign rfl) (al_end (ah_last (by kernel_rfl) ?_))
      refine aq_inN (aq_then (ac_region (al_p (q_move rfl) ?_)))
      refine al_p (q_add rfl rfl (by omega)) (al_p (q_assign rfl) (al_end (aq_then ?_)))
      skip
      refine aq_round ((p.1 + 1, o_1)) (by simp only; omega) ⟨by simp only; omega, by simp only; rw [pkC_succ, ← hv]; exact g_1⟩ ⟨rfl, rfl, rfl, rfl, rfl, trivial⟩ (fun w9 hs => (by dsimp only; rw [pkC_succ, ← hv]; exact (hs.tail 1 rfl)))
    · have hkj : ¬ p.1 < nj := by have := of_decide_eq_false h2; omega
      have hv : (spA xs p.1).lo + Int.tmod 0 ((spA xs p.1).hi - (spA xs p.1).lo + 1) = pkA xs js p.1 := by unfold pkA pik; rw [if_neg (by omega)]
      have hm := tmod_bd (b := ((spA xs p.1).hi - (spA xs p.1).lo + 1)) (show 0 ≤ (0 : Int) from by omega) (by omega)
      refine ac_skip (aq_then (ac_drawF 23 .z (by kernel_rfl) (by kernel_rfl) ?_))
      refine ah_t 0 (fun w9 hs => (hs.front (.z))) rfl rfl (by kernel_rfl) (q_move rfl) (ah_t 1 (fun w9 hs => (hs.front (.z))) rfl rfl (by kernel_rfl) (q_move rfl) (ah_t 2 (fun w9 hs => (hs.front (.z))) rfl rfl (by kernel_rfl) (q_move rfl) ?_))
      refine ah_t 3 (fun w9 hs => (hs.front (.z))) rfl rfl (by kernel_rfl) (q_indexAddrA (i := p.1) (o11 + p.1 * 2 + 0) hA1 rfl rfl rfl (by omega) Tryz.runUnderlying45 Tryz.sizeOf52 rfl) ?_
      refine ah_t 4 (fun w9 hs => (hs.front (.z))) rfl rfl (by kernel_rfl) (q_fieldAddr (o11 + p.1 * 2 + 0) rfl Tryz.runUnderlying52 rfl Tryz.sizeOf3 (by decide) rfl) (ah_t 5 (fun w9 hs => (hs.front (.z))) rfl rfl (by kernel_rfl) (q_loadX rfl Tryz.isAgg3 (fun w9 hs => (hs.below.cell (p := ⟨_, _, none⟩) hlt1).trans ((hget1 p.1 _ hx1) 0 _ rfl))) (ah_t 6 (fun w9 hs => (hs.front (.z))) rfl rfl (by kernel_rfl) (q_move rfl) (ah_t 7 (fun w9 hs => (hs.front (.z))) rfl rfl (by kernel_rfl) (q_move rfl) (ah_t 8 (fun w9 hs => (hs.front (.z))) rfl rfl (by kernel_rfl) (q_move rfl) ?_))))
      refine ah_t 9 (fun w9 hs => (hs.front (.z))) rfl rfl (by kernel_rfl) (q_indexAddrA (i := p.1) (o11 + p.1 * 2 + 0) hA1 rfl rfl rfl (by omega) Tryz.runUnderlying45 Tryz.sizeOf52 rfl) ?_
      refine ah_t 10 (fun w9 hs => (hs.front (.z))) rfl rfl (by kernel_rfl) (q_fieldAddr (o11 + p.1 * 2 + 1) rfl Tryz.runUnderlying52 rfl Tryz.sizeOf3 (by decide) rfl) (ah_t 11 (fun w9 hs => (hs.front (.z))) rfl rfl (by kernel_rfl) (q_loadX rfl Tryz.isAgg3 (fun w9 hs => (hs.below.cell (p := ⟨_, _, none⟩) hlt1).trans ((hget1 p.1 _ hx1) 1 _ rfl))) (ah_t 12 (fun w9 hs => (hs.front (.z))) rfl rfl (by kernel_rfl) (q_move rfl) (ah_t 13 (fun w9 hs => (hs.front (.z))) rfl rfl (by kernel_rfl) (q_move rfl) ?_)))
      refine ah_t 14 (fun w9 hs => (hs.front (.z))) rfl rfl (by kernel_rfl) (q_indexAddrA (i := p.1) (o11 + p.1 * 2 + 0) hA1 rfl rfl rfl (by omega) Tryz.runUnderlying45 Tryz.sizeOf52 rfl) ?_
      refine ah_t 15 (fun w9 hs => (hs.front (.z))) rfl rfl (by kernel_rfl) (q_fieldAddr (o11 + p.1 * 2 + 0) rfl Tryz.runUnderlying52 rfl Tryz.sizeOf3 (by decide) rfl) (ah_t 16 (fun w9 hs => (hs.front (.z))) rfl rfl (by kernel_rfl) (q_loadX rfl Tryz.isAgg3 (fun w9 hs => (hs.below.cell (p := ⟨_, _, none⟩) hlt1).trans ((hget1 p.1 _ hx1) 0 _ rfl))) ?_)
      refine ah_t 17 (fun w9 hs => (hs.front (.z))) rfl rfl (by kernel_rfl) (q_sub rfl rfl (by omega)) ?_
      refine ah_t 18 (fun w9 hs => (hs.front (.z))) rfl rfl (by kernel_rfl) (q_add rfl rfl (by omega)) ?_
      refine ah_t 19 (fun w9 hs => (hs.front (.z))) rfl rfl (by kernel_rfl) (q_rem rfl rfl (by omega)) ?_
      refine ah_t 20 (fun w9 hs => (hs.front (.z))) rfl rfl (by kernel_rfl) (q_add rfl rfl (by omega)) (ah_one 21 rfl (by kernel_rfl) (fun hok4 hcl4 => ?_))
      refine al_new (fun b => .slice (some ⟨b, 0, none⟩) 1 1) (r_buildSlice (.cons rfl .nil) (eqx_bs_int_1_0_ _ rfl)) rfl rfl rfl ?_
      intro b2
      refine al_end (ah_back hok4 hcl4 (fun w9 hs => ((hs.tail 1 rfl).front (.z))) ?_)
      refine ah_one 22 rfl (by kernel_rfl) (fun hok5 hcl5 => ?_)
      refine al_grow (z := 1) (bytes := 8) (zv := (.int .i64 0)) (o := p.2) (cs := (pkC xs js p.1)) (vs := [.int .i64 ((spA xs p.1).lo + Int.tmod 0 ((spA xs p.1).hi - (spA xs p.1).lo + 1))]) rfl rfl (.s (.z)) hgp (Sor.box (j := 0) rfl rfl rfl) Tryz.underlying30 (by kernel_rfl) rfl (by omega) (by decide) rfl rfl (fun o_2 g_2 => ?_)
      refine ⟨_, (.s (.z)), ?_⟩
      refine al_end (ah_back hok5 hcl5 (fun w9 hs => ((hs.tail 1 rfl).front (.z))) ?_)
      refine ah_one 23 rfl (by kernel_rfl) (fun hok6 hcl6 => ?_)
      refine al_p (q_assign rfl) (al_end (ah_last (by kernel_rfl) ?_))
      refine aq_inN (aq_then (aq_keepL [0, 1, 4, 5, 6, 7, 8, 9, 10, 11, 14, 15, 16, 17, 23, 24, 25, 26, 27, 28, 29, 30, 31, 32, 33, 34, 35, 36, 37, 38, 39, 40, 41, 42, 43, 44, 45] (.cons rfl (.cons rfl (.cons rfl (.cons rfl (.cons rfl (.cons rfl (.cons rfl (.cons rfl (.cons rfl (.cons rfl (.cons rfl (.cons rfl (.cons rfl (.cons rfl (.cons rfl (.cons rfl (.cons rfl (.cons rfl (.cons rfl (.cons rfl (.cons rfl (.cons rfl (.cons rfl (.cons rfl (.cons rfl (.cons rfl (.cons rfl (.cons rfl (.cons rfl (.cons rfl (.cons rfl (.cons rfl (.cons rfl (.cons rfl (.cons rfl (.cons rfl (.cons rfl .nil))))))))))))))))))))))))))))))))))))) ?_))
      refine ac_region (al_p (q_move rfl) ?_)
      refine al_p (q_add rfl rfl (by omega)) (al_p (q_assign rfl) (al_end (aq_then ?_)))
      skip
      refine aq_round ((p.1 + 1, o_2)) (by simp only; omega) ⟨by simp only; omega, by simp only; rw [pkC_succ, ← hv]; exact g_2⟩ ⟨rfl, rfl, rfl, rfl, rfl, trivial⟩ (fun w9 hs => (by dsimp only; rw [pkC_succ, ← hv]; exact (hs.tail 1 rfl)))
  · have hke : p.1 = nx := by have := of_decide_eq_false h1; omega
    refine ac_exit (aq_thenE (aq_thenE (aq_hit (aq_then ?_))))
    refine ac_seq (ac_region ?_)
    refine al_p (q_move rfl) (al_p (q_assign rfl) (al_end (aq_then ?_)))
    refine ac_ret (ret1 Tryz.results31 rfl (fun w9 hs => ?_))
    exact ⟨gA p.2, gC p.2, by rw [hke], by have h9 := hs.grown (enc := intCells) (o := p.2) (cs := pkC xs js p.1) (zs := lst p.1 (pkA xs js)) (fun _ => rfl) (fun y hy => by simp [hy]) hgp rfl (lst_length _ _); rw [hke] at h9; exact h9, hs.below⟩
def flJ (M : MachD) (C : CurD) (js : List Int) (p : PointD) : Int := knP M C p + dotTo (fun i => wgt M p i * iA js i) (cellN M)
def curJ (C : CurD) (js : List Int) : CurD := ⟨C.coils, C.shells, js⟩
theorem flux_cellsJ (M : MachD) (p : PointD) (js : List Int) : fluxP (p.r, p.z) (cellSrc M.grid js js.length) = dotTo (fun i => wgt M p i * iA js i) js.length := by
  have h := dot_flux (p.r, p.z) (lst js.length (wgt M p)) js (cellSrc M.grid js js.length) (by rw [lst_length, cellSrc_length]) (by rw [cellSrc_length]) (fun k a b s ha hb hs => by
    have hk := (List.getElem?_eq_some_iff.1 hb).1
    rw [lst_get _ hk] at ha
    cases ha
    unfold cellSrc at hs
    rw [List.getElem?_map, List.getElem?_range hk] at hs
    simp only [Option.map_some] at hs
    cases hs
    rw [hb]
    rfl)
  rw [← h, dot_dotTo _ _ (lst_length _ _), lst_length]
  refine dotTo_ext _ fun k hk => ?_
  rw [iA_lst _ hk]
theorem fluxJ {M : MachD} {C : CurD} {js : List Int} (p : PointD) (hl : js.length = cellN M) : fluxP (p.r, p.z) (srcM M (curJ C js)) = flJ M C js p := by
  have e : knP M C p = fluxP (p.r, p.z) (List.zipWith (fun c x => ((c.r, c.z), c.turns * x)) M.coils C.coils) + (fluxP (p.r, p.z) (List.zipWith (fun s x => ((s.r, s.z), x)) M.shells C.shells) + fluxP (p.r, p.z) (cellSrc ⟨0, 0, 1, 1, 1⟩ [0] 1)) := by
    unfold knP srcM srcL
    rw [fluxP_append, fluxP_append]
    rfl
  have e2 : fluxP (p.r, p.z) (srcM M (curJ C js)) = fluxP (p.r, p.z) (List.zipWith (fun c x => ((c.r, c.z), c.turns * x)) M.coils C.coils) + (fluxP (p.r, p.z) (List.zipWith (fun s x => ((s.r, s.z), x)) M.shells C.shells) + fluxP (p.r, p.z) (cellSrc M.grid js js.length)) := by
    unfold srcM srcL curJ
    rw [fluxP_append, fluxP_append]
  unfold flJ
  rw [e2, e, fl_zero, flux_cellsJ, hl]
  omega
theorem flJ_bd {M : MachD} {C : CurD} {xs : List SpanD} {js : List Int} (p : PointD) (h : ∀ k, k < cellN M → (spA xs k).lo ≤ iA js k ∧ iA js k ≤ (spA xs k).hi) : (flS M C xs p).lo ≤ flJ M C js p ∧ flJ M C js p ≤ (flS M C xs p).hi := by
  have h1 := dotTo_le (f := fun i => wgt M p i * (spA xs i).lo) (g := fun i => wgt M p i * iA js i) (cellN M) (fun k hk => Int.mul_le_mul_of_nonneg_left (h k hk).1 (wgt_bd M p k).1)
  have h2 := dotTo_le (f := fun i => wgt M p i * iA js i) (g := fun i => wgt M p i * (spA xs i).hi) (cellN M) (fun k hk => Int.mul_le_mul_of_nonneg_left (h k hk).2 (wgt_bd M p k).1)
  show loT M C p xs (cellN M) ≤ flJ M C js p ∧ flJ M C js p ≤ hiT M C p xs (cellN M)
  unfold loT hiT flJ
  exact ⟨by omega, by omega⟩
def tpJ (f : Nat → Int) : Nat → Int
  | 0 => 0
  | n + 1 => topTo f n
theorem tpJ_a {f : Nat → Int} {k : Nat} (h : k = 0) : tpJ f (k + 1) = f k := by subst h; rfl
theorem tpJ_b {f : Nat → Int} {k : Nat} (h : k ≠ 0) (hb : tpJ f k < f k) : tpJ f (k + 1) = f k := by
  obtain ⟨n, rfl⟩ : ∃ n, k = n + 1 := ⟨k - 1, by omega⟩
  show max (topTo f n) (f (n + 1)) = _
  have : topTo f n < f (n + 1) := hb
  omega
theorem tpJ_c {f : Nat → Int} {k : Nat} (h : k ≠ 0) (hb : f k ≤ tpJ f k) : tpJ f (k + 1) = tpJ f k := by
  obtain ⟨n, rfl⟩ : ∃ n, k = n + 1 := ⟨k - 1, by omega⟩
  show max (topTo f n) (f (n + 1)) = topTo f n
  have : f (n + 1) ≤ topTo f n := hb
  omega
theorem fluxJ_any (R : MachR) (M : MachD) (Q : CurR) (C : CurD) (js : List Int) (p : PointD) (w : World) (hM : IsM w R M) (hC : IsC w Q (curJ C js)) (hv : validC M (curJ C js) = true) (hp : nearB p.r p.z 100 = true) : Calls Tryz.prog 34 #[.agg (mCs R M).toArray, .agg (cCs Q).toArray, .agg #[.int .i64 p.r, .int .i64 p.z]] w (Ret (.tuple #[.int .i64 (flJ M C js p), .int .i64 0]) w) := by
  have h := flux_any R M Q (curJ C js) p.r p.z w hM hC
  have e : fluxE M (curJ C js) p.r p.z = (flJ M C js p, 0) := by
    unfold fluxE fieldE
    rw [if_pos hv, if_pos hp, if_pos rfl]
    have hl := (fit2_iff.1 hv).plasma.1
    have hcn := cellN_eq (fit2_iff.1 hv).check
    rw [fluxJ p (show js.length = cellN M by have : (curJ C js).plasma.length = js.length := rfl; omega)]
  rw [e] at h
  exact h
end
end Go.Proofs.YtogcjgjhmlifgaaGreat
