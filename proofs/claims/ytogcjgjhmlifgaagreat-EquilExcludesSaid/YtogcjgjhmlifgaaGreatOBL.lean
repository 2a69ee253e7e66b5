import Derived.Test.YtogcjgjhmlifgaaGreatOBE
import Derived.Test.YtogcjgjhmlifgaaGreatOBK
import Derived.Test.YtogcjgjhmlifgaaGreatRows
import Derived.KernelRfl
import Derived.Laws.StructEq
namespace Go.Proofs.YtogcjgjhmlifgaaGreat
set_option linter.unusedVariables false
set_option linter.unusedSimpArgs false
section
open Go.RowKit
theorem mulS_bd {a b A B : Int} (h : -A ≤ a ∧ a ≤ A) (hb : -B ≤ b ∧ b ≤ B) : -(A * B) ≤ a * b ∧ a * b ≤ A * B := by
  rcases Int.lt_or_le a 0 with g | g
  · have h1 := mul_bd (show 0 ≤ -a by omega) (show -a ≤ A by omega) hb.1 hb.2
    rw [Int.neg_mul] at h1
    omega
  · exact mul_bd g h.2 hb.1 hb.2
theorem flux_diff (p q : Int × Int) {B : Int} (hB : 0 ≤ B) : ∀ S : List Src, (∀ s ∈ S, -B ≤ s.2 ∧ s.2 ≤ B) → -((S.length : Int) * (250000 * B)) ≤ fluxP p S - fluxP q S ∧ fluxP p S - fluxP q S ≤ (S.length : Int) * (250000 * B)
  | [], _ => by simp [fluxP]
  | s :: r, h => by
    have h1 := flux_diff p q hB r (fun x hx => h x (List.mem_cons_of_mem _ hx))
    have h2 := h s List.mem_cons_self
    have i1 := infl_bd p.1 p.2 s.1.1 s.1.2
    have i2 := infl_bd q.1 q.2 s.1.1 s.1.2
    have h3 := mulS_bd (a := infl p.1 p.2 s.1.1 s.1.2 - infl q.1 q.2 s.1.1 s.1.2) (A := 250000) (by omega) h2
    rw [Int.sub_mul] at h3
    have e : ((s :: r).length : Int) * (250000 * B) = (r.length : Int) * (250000 * B) + 250000 * B := by rw [List.length_cons, Int.natCast_succ, Int.add_mul]; omega
    rw [e]
    simp only [fluxP]
    omega
theorem kn_diff {M : MachD} {C : CurD} (h : Fit2 M C) (p q : PointD) : knP M C p - knP M C q ≤ 304000000000000 := by
  have hs := sound_of h.check
  have e : ∀ p : PointD, knP M C p = fluxP (p.r, p.z) (List.zipWith (fun c x => ((c.r, c.z), c.turns * x)) M.coils C.coils) + (fluxP (p.r, p.z) (List.zipWith (fun s x => ((s.r, s.z), x)) M.shells C.shells) + fluxP (p.r, p.z) (cellSrc ⟨0, 0, 1, 1, 1⟩ [0] 1)) := fun p => by
    unfold knP srcM srcL
    rw [fluxP_append, fluxP_append]
    rfl
  have h1 := flux_diff (p.r, p.z) (q.r, q.z) (B := 100000000) (by omega) (List.zipWith (fun (c : CoilD) x => ((c.r, c.z), c.turns * x)) M.coils C.coils) (fun s hs' => by
    obtain ⟨k, hk, e⟩ := List.mem_iff_getElem.1 hs'
    simp at e hk
    have g1 := hs.coils.2 _ (List.getElem_mem (show k < M.coils.length by omega))
    have g2 := h.coils.2 _ (List.getElem_mem (show k < C.coils.length by omega))
    have g3 := mul_bd (show 0 ≤ M.coils[k].turns by omega) g1.1.2 g2.1 g2.2
    rw [← e]; dsimp only; omega)
  have h2 := flux_diff (p.r, p.z) (q.r, q.z) (B := 1000000) (by omega) (List.zipWith (fun (s : ShellD) x => ((s.r, s.z), x)) M.shells C.shells) (fun s hs' => by
    obtain ⟨k, hk, e⟩ := List.mem_iff_getElem.1 hs'
    simp at e hk
    have g2 := h.shells.2 _ (List.getElem_mem (show k < C.shells.length by omega))
    rw [← e]; dsimp only; omega)
  have l1 : ((List.zipWith (fun (c : CoilD) (x : Int) => ((c.r, c.z), c.turns * x)) M.coils C.coils).length : Int) ≤ 12 := by have := hs.coils.1; simp; omega
  have l2 : ((List.zipWith (fun (s : ShellD) (x : Int) => ((s.r, s.z), x)) M.shells C.shells).length : Int) ≤ 16 := by have := hs.shells.1; simp; omega
  have q1 := len_mul (B := 250000 * 100000000) l1 (by omega)
  have q2 := len_mul (B := 250000 * 1000000) l2 (by omega)
  rw [e p, e q, fl_zero, fl_zero]
  omega
theorem topTo_ge (f : Nat → Int) : ∀ n : Nat, f 0 ≤ topTo f n
  | 0 => Int.le_refl _
  | n + 1 => by have := topTo_ge f n; simp only [topTo]; omega
theorem lo_diff {M : MachD} {C : CurD} {t : Int} {x : List SpanD} (hf : Fit2 M C) (hx : FitX M t x) (ht : t ≤ 1000000) (p q : PointD) : (flS M C x p).lo - (flS M C x q).lo ≤ 320000000000000 := by
  have hcn := cellN_eq hf.check
  have d1 := dotTo_pos (f := fun i => wgt M p i * (spA x i).lo) (B := 250000000000) (cellN M) (fun k hk => (wl_bd hx ht p hk).1)
  have d2 := dotTo_pos (f := fun i => wgt M q i * (spA x i).lo) (B := 250000000000) (cellN M) (fun k hk => (wl_bd hx ht q hk).1)
  have l1 := len_mul (n := cellN M) (m := 64) (B := 250000000000) (by omega) (by omega)
  have k1 := kn_diff hf p q
  show loT M C p x (cellN M) - loT M C q x (cellN M) ≤ _
  unfold loT
  omega
theorem exA_pt {M : MachD} {C : CurD} {js : List Int} {n : Nat} (hn : n = cellN M) (k : Nat) : (exA M C (lst n (ptX js)) k).hi = (exA M C (lst n (ptX js)) k).lo := by
  show max 0 _ = max 0 _
  rw [flS_pt hn, bdS_pt hn]
theorem exHi_pt {M : MachD} {C : CurD} {js : List Int} {n : Nat} (hn : n = cellN M) : exHi M C (lst n (ptX js)) = exLo M C (lst n (ptX js)) := by
  unfold exHi exLo
  exact dotTo_ext _ fun k hk => exA_pt hn k
theorem ex_small {M : MachD} {C : CurD} {t : Int} {js : List Int} {n : Nat} (hf : Fit2 M C) (hx : FitX M t (lst n (ptX js))) (ht : t ≤ 1000000) (hn : n = cellN M) (k : Nat) : (exA M C (lst n (ptX js)) k).lo ≤ 320000000000000 := by
  have h1 := lo_diff hf hx ht (cellP M k) (limP M 0)
  have h2 := topTo_ge (fun j => (flS M C (lst n (ptX js)) (limP M j)).hi) (M.limits.length - 1)
  have h3 : (flS M C (lst n (ptX js)) (limP M 0)).hi ≤ (bdS M C (lst n (ptX js))).hi := h2
  rw [flS_pt hn] at h3
  show max 0 _ ≤ _
  omega
theorem sum_small {M : MachD} {C : CurD} {t : Int} {js : List Int} {n : Nat} (hf : Fit2 M C) (hx : FitX M t (lst n (ptX js))) (ht : t ≤ 1000000) (hn : n = cellN M) : exLo M C (lst n (ptX js)) ≤ 21000000000000000 := by
  have hcn := cellN_eq hf.check
  have h1 := dotTo_pos (f := fun k => (exA M C (lst n (ptX js)) k).lo) (B := 320000000000000) (cellN M) (fun k hk => ⟨(exA_bd hf hx ht k).1, ex_small hf hx ht hn k⟩)
  have h2 := len_mul (n := cellN M) (m := 64) (B := 320000000000000) (by omega) (by omega)
  unfold exLo
  omega
theorem imA_pt {M : MachD} {C : CurD} {t : Int} {js : List Int} {n : Nat} (hn : n = cellN M) (k : Nat) : imA M C t (lst n (ptX js)) k = ⟨t * (exA M C (lst n (ptX js)) k).lo / exLo M C (lst n (ptX js)), upQ (t * (exA M C (lst n (ptX js)) k).lo) (exLo M C (lst n (ptX js)))⟩ := by
  unfold imA
  rw [exA_pt hn, exHi_pt hn]
  generalize (exA M C (lst n (ptX js)) k).lo = a
  generalize exLo M C (lst n (ptX js)) = b
  rw [show a + b - a = b by omega]
theorem rvalidY (R : MachR) (M : MachD) (Q : CurR) (C : CurD) (w : World) (hM : IsM w R M) (hC : IsC w Q C) (hv : validC M C = true) : Calls Tryz.prog 30 #[.agg (mCs R M).toArray, .agg (cCs Q).toArray] w (Ret (.bool true) w) := by
  have h := rvalid5_any R M Q C w hM hC
  rwa [hv] at h
theorem rcellsK (R : MachR) (M : MachD) (n : Nat) (w : World) (hM : IsM w R M) (hc : checkC M = 0) (hn : n = cellN M) : Calls Tryz.prog 68 #[.agg (mCs R M).toArray] w (Ret (.int .i64 (n : Int)) w) := by
  have h := rpcells_any R M w hM
  have hcn := cellN_eq hc
  rwa [show cellsC M = (n : Int) from by unfold cellsC; rw [if_pos hc]; omega] at h
def imC (M : MachD) (C : CurD) (t : Int) (xs : List SpanD) (k : Nat) : List Value := (lst k (imA M C t xs)).flatMap SpanD.cells
theorem imC_succ (M : MachD) (C : CurD) (t : Int) (xs : List SpanD) (k : Nat) : imC M C t xs (k + 1) = imC M C t xs k ++ SpanD.cells (imA M C t xs k) := by unfold imC; rw [lst_snoc, List.flatMap_append]; simp
set_option maxRecDepth 100000 in
theorem rlisted_any (R : MachR) (M : MachD) (J : Option Addr) (nj cj : Nat) (js : List Int) (w : World) (hM : IsM w R M) (hJ : IsT 1 intCells w J nj js) (hc : checkC M = 0) (hn : nj = cellN M) (hb : ∀ k, k < nj → 0 ≤ iA js k ∧ iA js k ≤ 1000000) : Calls Tryz.prog 119 #[(.agg (mCs R M).toArray), (.slice J nj cj)] w (Ret (.bool true) w) := by
  have n1 := hJ.1
  have hcn := cellN_eq hc
  refine calls_ax (vs := [(.agg (mCs R M).toArray), (.slice J nj cj)]) Tryz.func119 rfl rfl ?_
  refine ac_seq (ac_region ?_)
  refine al_new (fun b => .pointer (some ⟨b, 0, none⟩)) (r_box rfl rfl) rfl rfl rfl ?_
  intro b1
  refine al_p (q_assign rfl) (al_end (aq_then ?_))
  refine ac_seq (ac_seq (ac_region ?_))
  refine al_p (q_move rfl) (al_p (q_lenS rfl Tryz.runUnderlying30) (al_p (q_loadAll (i := 0) rfl rfl Tryz.isAgg29 Tryz.sizeOf29 rfl) (al_call Tryz.call68 (.cons rfl .nil) rfl rfl (fun w1 hs1 => ?_))))
  refine (rcellsK R M nj _ (hM.below hs1.below) hc hn).mono ?_
  rintro e u1 ⟨rfl, hb_1⟩
  refine ⟨_, rfl, hb_1, ?_⟩
  clear hs1
  refine al_p (q_same (v' := .bool false) (q_neq rfl rfl) (by simp)) (al_end (aq_then ?_))
  refine ac_condF rfl (ac_skip (aq_then (ac_seq (ac_seq (ac_region ?_)))))
  refine al_p (q_assign rfl) (al_end (aq_then ?_))
  refine ac_block ?_
  refine ac_loop (β := Nat) (fun k => k ≤ nj) (fun k => [(1, (.slice J nj cj)), (4, (.bool false)), (5, (.int .i64 (k : Int)))]) (fun _ => _) (fun k => [(b1, _)]) (fun k => nj - k) 0 (by omega) ⟨rfl, rfl, rfl, trivial⟩ (fun w9 hs => hs) (fun k hF1 => ?_)
  refine ac_seq (ac_seq (ac_region ?_))
  refine al_p (q_move rfl) (al_p (q_move rfl) (al_p (q_lenS rfl Tryz.runUnderlying30) (al_p (q_lss rfl rfl) (al_end (aq_then ?_)))))
  refine ac_cond rfl (fun h1 => ?_) (fun h1 => ?_)
  · have hkn : k < nj := by have := of_decide_eq_true h1; omega
    obtain ⟨v1, v2⟩ := hb k hkn
    obtain ⟨b11, o11, hA1, hlt1, hget1⟩ := hJ.2 (by omega)
    have hx1 := iA_get (l := js) (k := k) (by omega)
    refine ac_skip (aq_then (ac_seq (ac_block (ac_seq (ac_region ?_)))))
    refine al_p (q_move rfl) (al_p (q_move rfl) ?_)
    refine al_p (q_indexAddrA (i := k) (o11 + k * 1 + 0) hA1 rfl rfl rfl (by omega) Tryz.runUnderlying30 Tryz.sizeOf3 rfl) (al_p (q_loadX rfl Tryz.isAgg3 (fun w9 hs => (hs.below.cell (p := ⟨_, _, none⟩) hlt1).trans ((hget1 k _ hx1) 0 _ rfl))) (al_call Tryz.call48 (.cons rfl (.cons rfl (.cons rfl .nil))) rfl rfl (fun w2 hs2 => ?_)))
    refine (rwth_yes (iA js k) 0 1000000 _ (by omega) (by omega)).mono ?_
    rintro e u2 ⟨rfl, hb_2⟩
    refine ⟨_, rfl, hb_2, ?_⟩
    clear hs2
    refine al_p (q_not rfl) (al_end (aq_then ?_))
    refine ac_condF rfl (ac_skip (aq_inN (aq_then (ac_region ?_))))
    refine al_p (q_move rfl) ?_
    refine al_p (q_add rfl rfl (by omega)) (al_p (q_assign rfl) (al_end (aq_then ?_)))
    skip
    refine aq_round (k + 1) (by omega) (by omega) ⟨rfl, rfl, rfl, trivial⟩ (fun w9 hs => (hs.fewer 1 rfl))
  · skip
    refine ac_exit (aq_thenE (aq_thenE (aq_hit (aq_then ?_))))
    refine ac_seq (ac_region ?_)
    refine al_p (q_assign rfl) (al_end (aq_then ?_))
    refine ac_ret (ret1 Tryz.results119 rfl (fun w9 hs => ?_))
    exact ⟨rfl, hs.below⟩
theorem ere_bl_apiSpan_0_1 (a0 a1 : Value) (ha0 : a0.oneCell' = true) (ha1 : a1.oneCell' = true) : ∀ w, (Instr.build 52 #[(0, a0), (1, a1)]).run Tryz.prog w = .ok (.agg #[a0, a1]) w := by
  have ea0 : a0.cells = #[a0] := cells_one ha0
  have ea1 : a1.cells = #[a1] := cells_one ha1
  intro w; simp [Instr.build, Instr.fill, cells_agg, Tryz.runUnderlying52, Tryz.zeroValue52, Tryz.sizeOf3, ea0, ea1]
theorem ere_bs_apiSpan_1_0_ (c0_0 c0_1 : Value) : ∀ w, (Instr.buildSlice 45 1 #[(0, .agg #[c0_0, c0_1])]).run Tryz.prog w = .ok (.slice (some ⟨w.heap.size, 0, none⟩) 1 1) (w.alloc (.cells [c0_0, c0_1].toArray 52)) := by
  intro w; (simp [Instr.buildSlice, Instr.fill, cells_agg, newRow, Tryz.runUnderlying45, Tryz.zeroValue52, Tryz.sizeOf52] <;> (rw [(by kernel_rfl : Array.range 2 = #[0, 1])]; simp [Value.cells]))
set_option maxRecDepth 100000 in
theorem rImage_any (R : MachR) (M : MachD) (Q : CurR) (C : CurD) (J : Option Addr) (nj cj : Nat) (js : List Int) (t : Int) (w : World) (hM : IsM w R M) (hC : IsC w Q C) (hJ : IsT 1 intCells w J nj js) (hv : validC M C = true) (hn : nj = cellN M) (t0 : 1 ≤ t) (t1 : t ≤ 1000000) (hb : ∀ k, k < nj → 0 ≤ iA js k ∧ iA js k ≤ t) : Calls Tryz.prog 79 #[(.agg (mCs R M).toArray), (.agg (cCs Q).toArray), (.int .i64 t), (.slice J nj cj)] w (OutT 2 SpanD.cells w (imE M C (lst nj (ptX js))) (imR M C t (lst nj (ptX js)))) := by
  have hf := fit2_iff.1 hv
  have hcn := cellN_eq hf.check
  have n1 := hJ.1
  have hX := ptX_fit (js := js) (n := nj) (t := t) hf.check hn hb
  have hsm := sum_small hf hX t1 hn
  have hs0 := (exS_bd hf hX t1 (n := cellN M) (Nat.le_refl _)).1
  change 0 ≤ (exLo M C (lst nj (ptX js))) at hs0
  refine calls_ax (vs := [(.agg (mCs R M).toArray), (.agg (cCs Q).toArray), (.int .i64 t), (.slice J nj cj)]) Tryz.func79 rfl rfl ?_
  refine ac_seq (ac_region ?_)
  refine al_new (fun b => .pointer (some ⟨b, 0, none⟩)) (r_box rfl rfl) rfl rfl rfl ?_
  intro b1
  refine al_new (fun b => .pointer (some ⟨b, 0, none⟩)) (r_box rfl rfl) rfl rfl rfl ?_
  intro b2
  refine al_p (q_assign rfl) (al_p (q_assign rfl) (al_end (aq_then ?_)))
  refine ac_seq (ac_block (ac_seq (ac_region ?_)))
  refine al_p (q_loadAll (i := 1) rfl rfl Tryz.isAgg29 Tryz.sizeOf29 rfl) (al_p (q_loadAll (i := 0) rfl rfl Tryz.isAgg32 Tryz.sizeOf32 rfl) (al_call Tryz.call30 (.cons rfl (.cons rfl .nil)) rfl rfl (fun w1 hs1 => ?_)))
  refine (rvalidY R M Q C _ (hM.below hs1.below) (hC.below hs1.below) hv).mono ?_
  rintro e u1 ⟨rfl, hb_1⟩
  refine ⟨_, rfl, hb_1, ?_⟩
  clear hs1
  refine al_p (q_not rfl) (al_p (q_move rfl) (al_p (q_loadAll (i := 1) rfl rfl Tryz.isAgg29 Tryz.sizeOf29 rfl) (al_p (q_move rfl) (al_call Tryz.call119 (.cons rfl (.cons rfl .nil)) rfl rfl (fun w2 hs2 => ?_)))))
  refine (rlisted_any R M J nj cj js _ (hM.below hs2.below) (hJ.below hs2.below) hf.check hn (fun k hk => by have := hb k hk; omega)).mono ?_
  rintro e u2 ⟨rfl, hb_2⟩
  refine ⟨_, rfl, hb_2, ?_⟩
  clear hs2
  refine al_p (q_not rfl) (al_p (q_pickF rfl rfl) (al_p (q_assign rfl) (al_end (aq_then ?_))))
  refine ac_condF rfl (ac_seq (ac_region ?_))
  refine al_p (q_move rfl) (al_call Tryz.call49 (.cons rfl .nil) rfl rfl (fun w3 hs3 => ?_))
  refine (rtot_yes t _ t0 t1).mono ?_
  rintro e u3 ⟨rfl, hb_3⟩
  refine ⟨_, rfl, hb_3, ?_⟩
  clear hs3
  refine al_p (q_not rfl) (al_p (q_assign rfl) (al_end (aq_then ?_)))
  refine ac_condF rfl (ac_skip (aq_inN (aq_then (ac_seq (ac_region ?_)))))
  refine al_p (q_loadAll (i := 1) rfl rfl Tryz.isAgg29 Tryz.sizeOf29 rfl) (al_p (q_loadAll (i := 0) rfl rfl Tryz.isAgg32 Tryz.sizeOf32 rfl) (al_p (q_move rfl) (al_call Tryz.call38 (.cons rfl (.cons rfl (.cons rfl .nil))) rfl rfl (fun w4 hs4 => ?_))))
  refine (rExcesses_any R M Q C J nj cj js t _ (hM.below hs4.below) (hC.below hs4.below) (hJ.below hs4.below) hf hn t1 hb).mono ?_
  rintro e u4 ⟨A_e, c_e, rfl, N_e, hb_4⟩
  refine ⟨_, rfl, hb_4, ?_⟩
  clear hs4
  refine al_p (q_move rfl) (al_p (q_extract rfl rfl) (al_p (q_extract rfl rfl) (al_p (q_assign rfl) (al_p (q_assign rfl) ?_))))
  refine al_end (aq_then ?_)
  refine ac_seq (ac_seq (ac_region ?_))
  refine al_p (q_move rfl) (al_p (q_eql rfl rfl) (al_end (aq_then ?_)))
  refine ac_cond rfl (fun h1 => ?_) (fun h1 => ?_)
  · have h0 : (exLo M C (lst nj (ptX js))) = 0 := eq_of_beq h1
    refine ac_seq (ac_region ?_)
    refine al_p (q_assign rfl) (al_p (q_assign rfl) (al_end (aq_then ?_)))
    refine ac_ret (aq_thenR (ret2 Tryz.results79 rfl rfl (fun w9 hs => ?_)))
    unfold imE imR; rw [if_pos h0, if_pos h0]; exact OutT.nil hs.below
  · have h0 : (exLo M C (lst nj (ptX js))) ≠ 0 := by simpa using h1
    refine ac_skip (aq_then (ac_seq (ac_region ?_)))
    refine al_p (q_assign rfl) (al_end (aq_then ?_))
    refine ac_seq (ac_seq (ac_region ?_))
    refine al_p (q_assign rfl) (al_end (aq_then ?_))
    refine ac_block ?_
    refine ac_loop (β := Nat × Gr) (fun p => p.1 ≤ cellN M ∧ gok p.2 p.1 2 (imC M C t (lst nj (ptX js)) p.1)) (fun p => [(2, (.int .i64 t)), (8, (.slice none 0 0)), (9, (.int .i64 0)), (10, (.slice A_e (cellN M) c_e)), (11, (.int .i64 (exLo M C (lst nj (ptX js))))), (12, (.slice (gA p.2) p.1 (gC p.2))), (13, (.int .i64 (p.1 : Int)))]) (fun _ => _) (fun p => (b2, _) :: (b1, _) :: (gt p.2 (imC M C t (lst nj (ptX js)) p.1) ++ ([]))) (fun p => cellN M - p.1) (0, none) ⟨Nat.zero_le _, gok.none 2⟩ ⟨rfl, rfl, rfl, rfl, rfl, rfl, rfl, trivial⟩ (fun w9 hs => (by rw [show gt none (imC M C t (lst nj (ptX js)) 0) = [] from rfl, List.nil_append]; exact hs)) (fun p hF1 => ?_)
    obtain ⟨hpx, hgp⟩ := hF1
    refine ac_seq (ac_seq (ac_region ?_))
    refine al_p (q_move rfl) (al_p (q_move rfl) (al_p (q_lenS rfl Tryz.runUnderlying30) (al_p (q_lss rfl rfl) (al_end (aq_then ?_)))))
    refine ac_cond rfl (fun h2 => ?_) (fun h2 => ?_)
    · have hpn : p.1 < cellN M := by have := of_decide_eq_true h2; omega
      obtain ⟨b_e, o_e, hA_e, hlt_e, hget_e⟩ := N_e.isT.2 (by omega)
      have hx_e := lst_get (fun k => (exA M C (lst nj (ptX js)) k).lo) hpn
      have hx0 := (exA_bd hf hX t1 p.1).1
      have hxs : (exA M C (lst nj (ptX js)) p.1).lo ≤ (exLo M C (lst nj (ptX js))) := dotTo_one (f := fun k => (exA M C (lst nj (ptX js)) k).lo) (cellN M) p.1 hpn (fun j _ => (exA_bd hf hX t1 j).1)
      have hpt := imA_pt (M := M) (C := C) (t := t) (js := js) hn p.1
      refine ac_skip (aq_then (ac_seq (ac_block (ac_seq (ac_region ?_)))))
      refine al_p (q_move rfl) (al_p (q_move rfl) (al_p (q_move rfl) ?_))
      refine al_p (q_indexAddrA (i := p.1) (o_e + p.1 * 1 + 0) hA_e rfl rfl rfl (by omega) Tryz.runUnderlying30 Tryz.sizeOf3 rfl) (al_p (q_loadX rfl Tryz.isAgg3 (fun w9 hs => (cell_blkx ((hs.snap _ _ (.head _)).2.2.2.1 b_e (N_e.new _ _ hA_e) hlt_e)).trans ((hget_e p.1 _ hx_e) 0 _ rfl))) (al_p (q_move rfl) (al_call Tryz.call120 (.cons rfl (.cons rfl (.cons rfl .nil))) rfl rfl (fun w5 hs5 => ?_))))
      refine (rPart_any t (exA M C (lst nj (ptX js)) p.1).lo (exLo M C (lst nj (ptX js))) _ ⟨by omega, t1⟩ hx0 hxs ⟨by omega, hsm⟩).mono ?_
      rintro e u5 ⟨rfl, hb_5⟩
      refine ⟨_, rfl, hb_5, ?_⟩
      clear hs5
      refine al_p (q_move rfl) (al_p (q_extract rfl rfl) (al_p (q_extract rfl rfl) (al_p (q_assign rfl) (al_p (q_assign rfl) ?_))))
      refine al_end (aq_then ?_)
      refine ac_region (al_p (q_move rfl) (al_p (q_move rfl) (al_p (q_move rfl) (al_p (q_move rfl) ?_))))
      refine al_p (q_move rfl) ?_
      refine al_p (q_indexAddrA (i := p.1) (o_e + p.1 * 1 + 0) hA_e rfl rfl rfl (by omega) Tryz.runUnderlying30 Tryz.sizeOf3 rfl) (al_p (q_loadX rfl Tryz.isAgg3 (fun w9 hs => (cell_blkx ((hs.snap _ _ (.tail _ (.head _))).2.2.2.1 b_e (N_e.new _ _ hA_e) hlt_e)).trans ((hget_e p.1 _ hx_e) 0 _ rfl))) (al_p (q_move rfl) (al_call Tryz.call121 (.cons rfl (.cons rfl (.cons rfl .nil))) rfl rfl (fun w6 hs6 => ?_))))
      refine (rup_any t (exA M C (lst nj (ptX js)) p.1).lo (exLo M C (lst nj (ptX js))) _ ⟨by omega, t1⟩ hx0 hxs ⟨by omega, hsm⟩).mono ?_
      rintro e u6 ⟨rfl, hb_6⟩
      refine ⟨_, rfl, hb_6, ?_⟩
      clear hs6
      refine al_p (q_build (.cons rfl (.cons rfl .nil)) (ere_bl_apiSpan_0_1 _ _ rfl rfl)) (al_new (fun b => .slice (some ⟨b, 0, none⟩) 1 1) (r_buildSlice (.cons rfl .nil) (ere_bs_apiSpan_1_0_ _ _)) rfl rfl rfl ?_)
      intro b3
      refine al_grow (z := 2) (bytes := 16) (zv := (.agg #[.int .i64 0, .int .i64 0])) (o := p.2) (cs := (imC M C t (lst nj (ptX js)) p.1)) (vs := [.int .i64 (t * (exA M C (lst nj (ptX js)) p.1).lo / (exLo M C (lst nj (ptX js)))), .int .i64 (upQ (t * (exA M C (lst nj (ptX js)) p.1).lo) (exLo M C (lst nj (ptX js))))]) rfl rfl (.s (.s (.s (.z)))) hgp (Sor.box (j := 0) rfl rfl rfl) Tryz.underlying45 (by kernel_rfl) rfl (by omega) (by decide) rfl rfl (fun o_1 g_1 => ?_)
      refine ⟨_, (.s (.s (.s (.z)))), ?_⟩
      refine al_p (q_assign rfl) (al_end (aq_inN (aq_then (ac_region ?_))))
      refine al_p (q_move rfl) ?_
      refine al_p (q_add rfl rfl (by omega)) (al_p (q_assign rfl) (al_end (aq_then ?_)))
      skip
      refine aq_round ((p.1 + 1, o_1)) (by simp only; omega) ⟨by simp only; omega, by simp only; rw [imC_succ, hpt]; exact g_1⟩ ⟨rfl, rfl, rfl, rfl, rfl, rfl, rfl, trivial⟩ (fun w9 hs => (by dsimp only; rw [imC_succ, hpt]; exact ((hs.fewer 2 rfl).tail 1 rfl)))
    · have hke : p.1 = cellN M := by have := of_decide_eq_false h2; omega
      refine ac_exit (aq_thenE (aq_thenE (aq_hit (aq_then ?_))))
      refine ac_seq (ac_region ?_)
      refine al_p (q_move rfl) (al_p (q_assign rfl) (al_p (q_assign rfl) (al_end (aq_then ?_))))
      refine ac_ret (ret2 Tryz.results79 rfl rfl (fun w9 hs => ?_))
      unfold imE imR imL; rw [if_neg h0, if_neg h0]; exact OutT.ok (n := p.1) (by have h9 := hs.grown (enc := SpanD.cells) (o := p.2) (cs := imC M C t (lst nj (ptX js)) p.1) (zs := lst p.1 (imA M C t (lst nj (ptX js)))) (fun _ => rfl) (fun y hy => by simp [hy]) hgp rfl (lst_length _ _); rw [hke] at h9 ⊢; exact h9) hs.below
end
end Go.Proofs.YtogcjgjhmlifgaaGreat
