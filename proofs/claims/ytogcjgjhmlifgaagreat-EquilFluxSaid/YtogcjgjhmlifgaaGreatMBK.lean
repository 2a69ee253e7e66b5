import Derived.Test.YtogcjgjhmlifgaaGreatMAA
import Derived.Test.YtogcjgjhmlifgaaGreatMAE
import Derived.Test.YtogcjgjhmlifgaaGreatMAG
import Derived.Test.YtogcjgjhmlifgaaGreatMBJ
import Derived.Test.YtogcjgjhmlifgaaGreatRows
import Derived.KernelRfl
import Derived.Laws.StructEq
import Derived.ProofKit
import Derived.OpenShut
import Derived.Lib.SmallJoins
import Derived.Deep.Slices
import Derived.Carry
namespace Go.Proofs.YtogcjgjhmlifgaaGreat
set_option linter.unusedVariables false
set_option linter.unusedSimpArgs false
section
open Go.RowKit
set_option maxRecDepth 100000 in
theorem rvbox9_any (R : MachR) (M : MachD) (X : Option Addr) (nx cx : Nat) (xs : List SpanD) (t : Int) (w : World) (hM : IsM w R M) (hS : IsT 2 SpanD.cells w X nx xs) : Calls Tryz.prog 29 #[(.agg (mCs R M).toArray), (.int .i64 t), (.slice X nx cx)] w (Ret (.bool (boxB M t xs)) w) := by
  have n1 := hS.1
  refine calls_ax (vs := [(.agg (mCs R M).toArray), (.int .i64 t), (.slice X nx cx)]) Tryz.func29 rfl rfl ?_
  refine ac_seq (ac_region ?_)
  refine al_new (fun b => .pointer (some ⟨b, 0, none⟩)) (r_box rfl rfl) rfl rfl rfl ?_
  intro b1
  refine al_p (q_assign rfl) (al_end (aq_then ?_))
  refine ac_seq (ac_seq (ac_region ?_))
  refine al_p (q_loadAll (i := 0) rfl rfl Tryz.isAgg29 Tryz.sizeOf29 rfl) (al_call Tryz.call67 (.cons rfl .nil) rfl rfl (fun w1 hs1 => ?_))
  refine (rpcheck_any R M _ (hM.below hs1.below)).mono ?_
  rintro e u1 ⟨rfl, hb_1⟩
  refine ⟨_, rfl, hb_1, ?_⟩
  clear hs1
  refine al_p (q_neq rfl rfl) (al_p (q_move rfl) ?_)
  refine aq_split 11 rfl (fun hb1 => ?_) (fun hb1 => ?_)
  · have hE : boxB M t xs = false := boxB_bad (Or.inl (bne_iff_ne.1 hb1))
    refine al_skip rfl rfl rfl (al_skip rfl rfl rfl (al_skip rfl rfl rfl (al_skip rfl rfl rfl (al_skip rfl rfl rfl ?_))))
    refine al_p (q_pickT rfl rfl) (al_end (aq_then ?_))
    refine ac_condT rfl (ac_seq (ac_region ?_))
    refine al_p (q_assign rfl) (al_end (aq_then ?_))
    refine ac_ret (aq_thenR (ret1 Tryz.results29 rfl (fun w9 hs => ?_)))
    first | (rw [hE]; exact ⟨rfl, hs.below⟩) | (have hE : boxB M t xs = true := boxB_yes hc (by omega) (fun j hj => hF1.2 j (by omega)); rw [hE]; exact ⟨rfl, hs.below⟩)
  · have hc : checkC M = 0 := by simpa using hb1
    have hcn := cellN_eq hc
    have hcs : cellsC M = (cellN M : Int) := by unfold cellsC; rw [if_pos hc, hcn.1]
    refine al_p (q_move rfl) (al_p (q_lenS rfl Tryz.runUnderlying45) (al_p (q_loadAll (i := 0) rfl rfl Tryz.isAgg29 Tryz.sizeOf29 rfl) (al_call Tryz.call68 (.cons rfl .nil) rfl rfl (fun w2 hs2 => ?_))))
    refine (rpcells_any R M _ (hM.below hs2.below)).mono ?_
    rintro e u2 ⟨rfl, hb_2⟩
    refine ⟨_, rfl, hb_2, ?_⟩
    clear hs2
    refine al_p (q_neq rfl rfl) (al_p (q_pickF rfl rfl) (al_end (aq_then ?_)))
    refine ac_cond rfl (fun h1 => ?_) (fun h1 => ?_)
    · have hE : boxB M t xs = false := boxB_bad (Or.inr (fun e => by rw [hcs] at h1; simp at h1; omega))
      refine ac_seq (ac_region ?_)
      refine al_p (q_assign rfl) (al_end (aq_then ?_))
      refine ac_ret (aq_thenR (ret1 Tryz.results29 rfl (fun w9 hs => ?_)))
      first | (rw [hE]; exact ⟨rfl, hs.below⟩) | (have hE : boxB M t xs = true := boxB_yes hc (by omega) (fun j hj => hF1.2 j (by omega)); rw [hE]; exact ⟨rfl, hs.below⟩)
    · have hnx : nx = cellN M := by rw [hcs] at h1; simp at h1; omega
      refine ac_skip (aq_then (ac_seq (ac_seq (ac_region ?_))))
      refine al_p (q_assign rfl) (al_end (aq_then ?_))
      refine ac_block (ac_loop (β := Nat) (fun k => k ≤ nx ∧ ∀ j, j < k → badX t (spA xs j) = false) (fun k => [(1, (.int .i64 t)), (2, (.slice X nx cx)), (6, (.bool false)), (7, (.int .i64 (k : Int)))]) (fun _ => _) (fun k => [(b1, _)]) (fun k => nx - k) 0 ⟨by omega, fun j h => by omega⟩ ⟨rfl, rfl, rfl, rfl, trivial⟩ (fun w9 hs => hs) (fun k hF1 => ?_))
      refine ac_seq (ac_seq (ac_region ?_))
      refine al_p (q_move rfl) (al_p (q_move rfl) (al_p (q_lenS rfl Tryz.runUnderlying45) (al_p (q_lss rfl rfl) (al_end (aq_then ?_)))))
      refine ac_cond rfl (fun h2 => ?_) (fun h2 => ?_)
      · have hkn : k < nx := by have := of_decide_eq_true h2; omega
        obtain ⟨b11, o11, hA1, hlt1, hget1⟩ := hS.2 (by omega)
        have hx1 := spA_get (x := xs) (k := k) (by omega)
        refine ac_skip (aq_then (ac_seq (ac_block (ac_seq ?_))))
        refine ac_draw 27 (by kernel_rfl) (by kernel_rfl) ?_
        refine ah_t 0 (fun w9 hs => hs) rfl rfl (by kernel_rfl) (q_move rfl) (ah_t 1 (fun w9 hs => hs) rfl rfl (by kernel_rfl) (q_move rfl) ?_)
        refine ah_t 2 (fun w9 hs => hs) rfl rfl (by kernel_rfl) (q_indexAddrA (i := k) (o11 + k * 2 + 0) hA1 rfl rfl rfl (by omega) Tryz.runUnderlying45 Tryz.sizeOf52 rfl) ?_
        refine ah_t 3 (fun w9 hs => hs) rfl rfl (by kernel_rfl) (q_fieldAddr (o11 + k * 2 + 0) rfl Tryz.runUnderlying52 rfl Tryz.sizeOf3 (by decide) rfl) (ah_t 4 (fun w9 hs => hs) rfl rfl (by kernel_rfl) (q_loadX rfl Tryz.isAgg3 (fun w9 hs => (hs.below.cell (p := ⟨_, _, none⟩) hlt1).trans ((hget1 k _ hx1) 0 _ rfl))) (ah_t 5 (fun w9 hs => hs) rfl rfl (by kernel_rfl) (q_lss rfl rfl) (ah_t 6 (fun w9 hs => hs) rfl rfl (by kernel_rfl) (q_move rfl) ?_)))
        refine ah_split 30 rfl (fun hb2 => ?_) (fun hb2 => ?_)
        · have g7 := of_decide_eq_true hb2
          have hbd : badX t (spA xs k) = true := by simp [badX]; omega
          have hE : boxB M t xs = false := boxB_no (j := k) (by omega) hbd
          refine ah_s 7 (fun w9 hs => hs) rfl rfl (by kernel_rfl) (ah_s 8 (fun w9 hs => hs) rfl rfl (by kernel_rfl) (ah_s 9 (fun w9 hs => hs) rfl rfl (by kernel_rfl) (ah_s 10 (fun w9 hs => hs) rfl rfl (by kernel_rfl) (ah_s 11 (fun w9 hs => hs) rfl rfl (by kernel_rfl) ?_))))
          refine ah_s 12 (fun w9 hs => hs) rfl rfl (by kernel_rfl) (ah_s 13 (fun w9 hs => hs) rfl rfl (by kernel_rfl) (ah_s 14 (fun w9 hs => hs) rfl rfl (by kernel_rfl) (ah_s 15 (fun w9 hs => hs) rfl rfl (by kernel_rfl) (ah_s 16 (fun w9 hs => hs) rfl rfl (by kernel_rfl) ?_))))
          refine ah_s 17 (fun w9 hs => hs) rfl rfl (by kernel_rfl) (ah_t 18 (fun w9 hs => hs) rfl rfl (by kernel_rfl) (q_pickT rfl rfl) (ah_t 19 (fun w9 hs => hs) rfl rfl (by kernel_rfl) (q_move rfl) (ah_s 20 (fun w9 hs => hs) rfl rfl (by kernel_rfl) (ah_s 21 (fun w9 hs => hs) rfl rfl (by kernel_rfl) ?_))))
          refine ah_s 22 (fun w9 hs => hs) rfl rfl (by kernel_rfl) (ah_s 23 (fun w9 hs => hs) rfl rfl (by kernel_rfl) (ah_s 24 (fun w9 hs => hs) rfl rfl (by kernel_rfl) (ah_s 25 (fun w9 hs => hs) rfl rfl (by kernel_rfl) (ah_s 26 (fun w9 hs => hs) rfl rfl (by kernel_rfl) ?_))))
          refine ah_t 27 (fun w9 hs => hs) rfl rfl (by kernel_rfl) (q_pickT rfl rfl) (ah_done (by kernel_rfl) ?_)
          refine aq_then (ac_condT rfl (ac_seq (ac_region ?_)))
          refine al_p (q_assign rfl) (al_end (aq_then ?_))
          refine ac_ret (aq_inR (aq_thenR (aq_thenR (aq_inR ?_))))
          refine aq_thenR (ret1 Tryz.results29 rfl (fun w9 hs => ?_))
          first | (rw [hE]; exact ⟨rfl, hs.below⟩) | (have hE : boxB M t xs = true := boxB_yes hc (by omega) (fun j hj => hF1.2 j (by omega)); rw [hE]; exact ⟨rfl, hs.below⟩)
        · have g7 := of_decide_eq_false hb2
          refine ah_t 7 (fun w9 hs => hs) rfl rfl (by kernel_rfl) (q_move rfl) (ah_t 8 (fun w9 hs => hs) rfl rfl (by kernel_rfl) (q_move rfl) ?_)
          refine ah_t 9 (fun w9 hs => hs) rfl rfl (by kernel_rfl) (q_indexAddrA (i := k) (o11 + k * 2 + 0) hA1 rfl rfl rfl (by omega) Tryz.runUnderlying45 Tryz.sizeOf52 rfl) ?_
          refine ah_t 10 (fun w9 hs => hs) rfl rfl (by kernel_rfl) (q_fieldAddr (o11 + k * 2 + 0) rfl Tryz.runUnderlying52 rfl Tryz.sizeOf3 (by decide) rfl) (ah_t 11 (fun w9 hs => hs) rfl rfl (by kernel_rfl) (q_loadX rfl Tryz.isAgg3 (fun w9 hs => (hs.below.cell (p := ⟨_, _, none⟩) hlt1).trans ((hget1 k _ hx1) 0 _ rfl))) (ah_t 12 (fun w9 hs => hs) rfl rfl (by kernel_rfl) (q_move rfl) (ah_t 13 (fun w9 hs => hs) rfl rfl (by kernel_rfl) (q_move rfl) ?_)))
          refine ah_t 14 (fun w9 hs => hs) rfl rfl (by kernel_rfl) (q_indexAddrA (i := k) (o11 + k * 2 + 0) hA1 rfl rfl rfl (by omega) Tryz.runUnderlying45 Tryz.sizeOf52 rfl) ?_
          refine ah_t 15 (fun w9 hs => hs) rfl rfl (by kernel_rfl) (q_fieldAddr (o11 + k * 2 + 1) rfl Tryz.runUnderlying52 rfl Tryz.sizeOf3 (by decide) rfl) (ah_t 16 (fun w9 hs => hs) rfl rfl (by kernel_rfl) (q_loadX rfl Tryz.isAgg3 (fun w9 hs => (hs.below.cell (p := ⟨_, _, none⟩) hlt1).trans ((hget1 k _ hx1) 1 _ rfl))) (ah_t 17 (fun w9 hs => hs) rfl rfl (by kernel_rfl) (q_gtr rfl rfl) (ah_t 18 (fun w9 hs => hs) rfl rfl (by kernel_rfl) (q_pickF rfl rfl) (ah_t 19 (fun w9 hs => hs) rfl rfl (by kernel_rfl) (q_move rfl) ?_))))
          refine ah_split 43 rfl (fun hb3 => ?_) (fun hb3 => ?_)
          · have g14 := of_decide_eq_true hb3
            have hbd : badX t (spA xs k) = true := by simp [badX]; omega
            have hE : boxB M t xs = false := boxB_no (j := k) (by omega) hbd
            refine ah_s 20 (fun w9 hs => hs) rfl rfl (by kernel_rfl) (ah_s 21 (fun w9 hs => hs) rfl rfl (by kernel_rfl) (ah_s 22 (fun w9 hs => hs) rfl rfl (by kernel_rfl) (ah_s 23 (fun w9 hs => hs) rfl rfl (by kernel_rfl) (ah_s 24 (fun w9 hs => hs) rfl rfl (by kernel_rfl) ?_))))
            refine ah_s 25 (fun w9 hs => hs) rfl rfl (by kernel_rfl) (ah_s 26 (fun w9 hs => hs) rfl rfl (by kernel_rfl) (ah_t 27 (fun w9 hs => hs) rfl rfl (by kernel_rfl) (q_pickT rfl rfl) (ah_done (by kernel_rfl) ?_)))
            refine aq_then (ac_condT rfl (ac_seq (ac_region ?_)))
            refine al_p (q_assign rfl) (al_end (aq_then ?_))
            refine ac_ret (aq_inR (aq_thenR (aq_thenR (aq_inR ?_))))
            refine aq_thenR (ret1 Tryz.results29 rfl (fun w9 hs => ?_))
            first | (rw [hE]; exact ⟨rfl, hs.below⟩) | (have hE : boxB M t xs = true := boxB_yes hc (by omega) (fun j hj => hF1.2 j (by omega)); rw [hE]; exact ⟨rfl, hs.below⟩)
          · have g14 := of_decide_eq_false hb3
            refine ah_t 20 (fun w9 hs => hs) rfl rfl (by kernel_rfl) (q_move rfl) (ah_t 21 (fun w9 hs => hs) rfl rfl (by kernel_rfl) (q_move rfl) ?_)
            refine ah_t 22 (fun w9 hs => hs) rfl rfl (by kernel_rfl) (q_indexAddrA (i := k) (o11 + k * 2 + 0) hA1 rfl rfl rfl (by omega) Tryz.runUnderlying45 Tryz.sizeOf52 rfl) ?_
            refine ah_t 23 (fun w9 hs => hs) rfl rfl (by kernel_rfl) (q_fieldAddr (o11 + k * 2 + 1) rfl Tryz.runUnderlying52 rfl Tryz.sizeOf3 (by decide) rfl) (ah_t 24 (fun w9 hs => hs) rfl rfl (by kernel_rfl) (q_loadX rfl Tryz.isAgg3 (fun w9 hs => (hs.below.cell (p := ⟨_, _, none⟩) hlt1).trans ((hget1 k _ hx1) 1 _ rfl))) (ah_t 25 (fun w9 hs => hs) rfl rfl (by kernel_rfl) (q_move rfl) (ah_t 26 (fun w9 hs => hs) rfl rfl (by kernel_rfl) (q_gtr rfl rfl) (ah_t 27 (fun w9 hs => hs) rfl rfl (by kernel_rfl) (q_pickF rfl rfl) ?_))))
            refine ah_done (by kernel_rfl) ?_
            refine aq_then ?_
            refine ac_cond rfl (fun h3 => ?_) (fun h3 => ?_)
            · have g2 := of_decide_eq_true h3
              have hbd : badX t (spA xs k) = true := by simp [badX]; omega
              have hE : boxB M t xs = false := boxB_no (j := k) (by omega) hbd
              refine ac_seq (ac_region ?_)
              refine al_p (q_assign rfl) (al_end (aq_then ?_))
              refine ac_ret (aq_inR (aq_thenR (aq_thenR (aq_inR ?_))))
              refine aq_thenR (ret1 Tryz.results29 rfl (fun w9 hs => ?_))
              first | (rw [hE]; exact ⟨rfl, hs.below⟩) | (have hE : boxB M t xs = true := boxB_yes hc (by omega) (fun j hj => hF1.2 j (by omega)); rw [hE]; exact ⟨rfl, hs.below⟩)
            · have g2 := of_decide_eq_false h3
              have hbad : badX t (spA xs k) = false := by simp [badX]; omega
              refine ac_skip (aq_inN (aq_then (ac_region (al_p (q_move rfl) ?_))))
              refine al_p (q_add rfl rfl (by omega)) (al_p (q_assign rfl) (al_end (aq_then ?_)))
              skip
              refine aq_round (k + 1) (by omega) ⟨by omega, fun j h1 => (Nat.lt_or_ge j k).elim (fun g => hF1.2 j g) (fun g => by (have e : j = k := by omega); rw [e]; exact hbad)⟩ ⟨rfl, rfl, rfl, rfl, trivial⟩ (fun w9 hs => hs)
      · have hke : k = nx := by have := of_decide_eq_false h2; omega
        refine ac_exit (aq_thenE (aq_thenE (aq_hit (aq_then ?_))))
        refine ac_seq (ac_region ?_)
        refine al_p (q_assign rfl) (al_end (aq_then ?_))
        refine ac_ret (ret1 Tryz.results29 rfl (fun w9 hs => ?_))
        first | (rw [hE]; exact ⟨rfl, hs.below⟩) | (have hE : boxB M t xs = true := boxB_yes hc (by omega) (fun j hj => hF1.2 j (by omega)); rw [hE]; exact ⟨rfl, hs.below⟩)
theorem boundary5Y (R : MachR) (M : MachD) (Q : CurR) (C : CurD) (X : Option Addr) (nx cx : Nat) (xs : List SpanD) (w : World) (hM : IsM w R M) (hC : IsC w Q C) (hS : IsT 2 SpanD.cells w X nx xs) (hlx : nx ≤ 1000000000000000) (hok : bnE M C xs = 0) : Calls Tryz.prog 33 #[.agg (mCs R M).toArray, .agg (cCs Q).toArray, .slice X nx cx] w (Ret (.tuple #[.agg #[.int .i64 (bdS M C xs).lo, .int .i64 (bdS M C xs).hi], .int .i64 0]) w) := by
  have h := boundary5_any R M Q C X nx cx xs w hM hC hS hlx
  rwa [(bn_ok hok).2.2, hok] at h
theorem tpJ_bdS {M : MachD} {C : CurD} {xs : List SpanD} {js : List Int} (h1 : 1 ≤ M.limits.length) (h : ∀ k, k < cellN M → (spA xs k).lo ≤ iA js k ∧ iA js k ≤ (spA xs k).hi) : (bdS M C xs).lo ≤ tpJ (fun k => flJ M C js (limP M k)) M.limits.length ∧ tpJ (fun k => flJ M C js (limP M k)) M.limits.length ≤ (bdS M C xs).hi := by
  obtain ⟨n, hn⟩ : ∃ n, M.limits.length = n + 1 := ⟨M.limits.length - 1, by omega⟩
  unfold bdS
  rw [hn]
  exact ⟨topTo_le n (fun k _ => (flJ_bd _ h).1), topTo_le n (fun k _ => (flJ_bd _ h).2)⟩
set_option maxRecDepth 100000 in
theorem flux_walk (R : MachR) (M : MachD) (Q : CurR) (C : CurD) (g : Int) (X : Option Addr) (nx cx : Nat) (xs : List SpanD) (J : Option Addr) (nj cj : Nat) (js : List Int) (w : World) (hM0 : R.la ≤ 1000000000000000 → R.lb ≤ 1000000000000000 → R.lc ≤ 1000000000000000 → R.ld ≤ 1000000000000000 → IsM w R M) (hC0 : Q.la ≤ 1000000000000000 → Q.lb ≤ 1000000000000000 → Q.lc ≤ 1000000000000000 → IsC w Q C) (hS : IsT 2 SpanD.cells w X nx xs) (hJ : IsT 1 intCells w J nj js) : Calls Tryz.prog 6 #[(.agg #[.string M.name, .slice R.A R.la R.ca, .slice R.B R.lb R.cb, .slice R.C R.lc R.cc, .int .i64 M.grid.r, .int .i64 M.grid.z, .int .i64 M.grid.nr, .int .i64 M.grid.nz, .int .i64 M.grid.step, .slice R.D R.ld R.cd, .slice Q.A Q.la Q.ca, .slice Q.B Q.lb Q.cb, .slice Q.C Q.lc Q.cc, .int .i64 g]), (.slice X nx cx), (.slice J nj cj)] w (Ret (.bool true) w) := by
  refine calls_ax (vs := [(.agg #[.string M.name, .slice R.A R.la R.ca, .slice R.B R.lb R.cb, .slice R.C R.lc R.cc, .int .i64 M.grid.r, .int .i64 M.grid.z, .int .i64 M.grid.nr, .int .i64 M.grid.nz, .int .i64 M.grid.step, .slice R.D R.ld R.cd, .slice Q.A Q.la Q.ca, .slice Q.B Q.lb Q.cb, .slice Q.C Q.lc Q.cc, .int .i64 g]), (.slice X nx cx), (.slice J nj cj)]) Tryz.func6 rfl rfl ?_
  refine ac_seq (ac_region ?_)
  refine al_new (fun b => .pointer (some ⟨b, 0, none⟩)) (r_box rfl rfl) rfl rfl rfl ?_
  intro b1
  refine al_p (q_assign rfl) (al_end (aq_then ?_))
  refine ac_seq (ac_seq (ac_region ?_))
  refine al_p (q_loadAll (i := 0) rfl rfl Tryz.isAgg34 Tryz.sizeOf34 rfl) (al_call Tryz.call9 (.cons rfl .nil) rfl rfl (fun w1 hs1 => ?_))
  refine (brief5_any R M Q g _).mono ?_
  rintro e u1 ⟨bb, rfl, hbb, hb_1⟩
  refine ⟨_, rfl, hb_1, ?_⟩
  clear hs1
  refine al_p (q_not rfl) (al_p (q_move rfl) ?_)
  refine aq_split 19 rfl (fun hb1 => ?_) (fun hb1 => ?_)
  · skip
    refine al_skip rfl rfl rfl (al_skip rfl rfl rfl (al_skip rfl rfl rfl (al_skip rfl rfl rfl (al_skip rfl rfl rfl ?_))))
    refine al_p (q_pickT rfl rfl) (al_p (q_move rfl) (al_skip rfl rfl rfl (al_skip rfl rfl rfl (al_skip rfl rfl rfl ?_))))
    refine al_skip rfl rfl rfl (al_skip rfl rfl rfl (al_skip rfl rfl rfl (al_p (q_pickT rfl rfl) (al_end (aq_then ?_)))))
    refine ac_condT rfl (ac_seq (ac_region ?_))
    refine al_call Tryz.call10 .nil rfl rfl (fun w2 hs2 => ?_)
    refine (awake5_any _).mono ?_
    rintro e u2 ⟨rfl, hb_2⟩
    refine ⟨_, rfl, hb_2, ?_⟩
    clear hs2
    refine al_p (q_assign rfl) (al_end (aq_then ?_))
    refine ac_ret (aq_thenR (ret1 Tryz.results6 rfl (fun w9 hs => ?_)))
    exact ⟨rfl, hs.below⟩
  · obtain ⟨u1, u2, u3, u4, u5, u6, u7⟩ := hbb (by simpa using hb1)
    have hM := hM0 (by omega) (by omega) (by omega) (by omega)
    have hC := hC0 (by omega) (by omega) (by omega)
    refine al_p (q_fieldAddr 0 rfl Tryz.runUnderlying34 rfl Tryz.sizeOf29 (by decide) rfl) (al_p (q_loadSub (i := 0) rfl rfl Tryz.isAgg29 Tryz.sizeOf29 .k0 .k10) (al_p (q_move rfl) (al_call Tryz.call29 (.cons rfl (.cons rfl (.cons rfl .nil))) rfl rfl (fun w3 hs3 => ?_))))
    refine (rvbox9_any R M X nx cx xs 1000000 _ (hM.below hs3.below) (hS.below hs3.below)).mono ?_
    rintro e u3 ⟨rfl, hb_3⟩
    refine ⟨_, rfl, hb_3, ?_⟩
    clear hs3
    refine al_p (q_not rfl) (al_p (q_pickF rfl rfl) (al_p (q_move rfl) ?_))
    refine aq_split 26 rfl (fun hb2 => ?_) (fun hb2 => ?_)
    · skip
      refine al_skip rfl rfl rfl (al_skip rfl rfl rfl (al_skip rfl rfl rfl (al_skip rfl rfl rfl (al_skip rfl rfl rfl ?_))))
      refine al_skip rfl rfl rfl (al_p (q_pickT rfl rfl) (al_end (aq_then ?_)))
      refine ac_condT rfl (ac_seq (ac_region ?_))
      refine al_call Tryz.call10 .nil rfl rfl (fun w4 hs4 => ?_)
      refine (awake5_any _).mono ?_
      rintro e u4 ⟨rfl, hb_4⟩
      refine ⟨_, rfl, hb_4, ?_⟩
      clear hs4
      refine al_p (q_assign rfl) (al_end (aq_then ?_))
      refine ac_ret (aq_thenR (ret1 Tryz.results6 rfl (fun w9 hs => ?_)))
      exact ⟨rfl, hs.below⟩
    · have hb : boxB M 1000000 xs = true := by simpa using hb2
      refine al_p (q_fieldAddr 0 rfl Tryz.runUnderlying34 rfl Tryz.sizeOf29 (by decide) rfl) (al_p (q_loadSub (i := 0) rfl rfl Tryz.isAgg29 Tryz.sizeOf29 .k0 .k10) ?_)
      refine al_p (q_fieldAddr 10 rfl Tryz.runUnderlying34 rfl Tryz.sizeOf32 (by decide) rfl) (al_p (q_loadSub (i := 0) rfl rfl Tryz.isAgg32 Tryz.sizeOf32 .k10 .k3) (al_call Tryz.call30 (.cons rfl (.cons rfl .nil)) rfl rfl (fun w5 hs5 => ?_)))
      refine (rvalid5_any R M Q C _ (hM.below hs5.below) (hC.below hs5.below)).mono ?_
      rintro e u5 ⟨rfl, hb_5⟩
      refine ⟨_, rfl, hb_5, ?_⟩
      clear hs5
      refine al_p (q_not rfl) (al_p (q_pickF rfl rfl) (al_end (aq_then ?_)))
      refine ac_cond rfl (fun h1 => ?_) (fun h1 => ?_)
      · skip
        refine ac_seq (ac_region ?_)
        refine al_call Tryz.call10 .nil rfl rfl (fun w6 hs6 => ?_)
        refine (awake5_any _).mono ?_
        rintro e u6 ⟨rfl, hb_6⟩
        refine ⟨_, rfl, hb_6, ?_⟩
        clear hs6
        refine al_p (q_assign rfl) (al_end (aq_then ?_))
        refine ac_ret (aq_thenR (ret1 Tryz.results6 rfl (fun w9 hs => ?_)))
        exact ⟨rfl, hs.below⟩
      · have hv : validC M C = true := by simpa using h1
        have hok : bnE M C xs = 0 := if_pos (by unfold bnV; rw [hv, hb]; rfl)
        obtain ⟨hf, hX, e1⟩ := bn_ok hok
        have hcn := cellN_eq hX.check
        have n1 := hS.1
        have n2 := hX.len
        have n3 := hM.limits.1
        have hlp := limits_pos hX.check
        have hlm := limits_most hX.check
        have hbx : ∀ k, k < nx → 0 ≤ (spA xs k).lo ∧ (spA xs k).lo ≤ (spA xs k).hi ∧ (spA xs k).hi ≤ 1000000 := fun k hk => box_at hX (by omega)
        have hin : ∀ k, k < cellN M → (spA xs k).lo ≤ iA (lst nx (pkA xs js)) k ∧ iA (lst nx (pkA xs js)) k ≤ (spA xs k).hi := fun k hk => by rw [iA_lst _ (by omega)]; exact pkA_bd (hbx k (by omega)).2.1
        have hnear : ∀ k, k < R.lc → nearB (pA M.limits k).r (pA M.limits k).z 100 = true := fun k hk => near_iff.2 (by have := limits_near hX.check _ (limP_mem (M := M) (k := k) (by omega)); exact ⟨⟨by show -100 ≤ (limP M k).r; omega, by show (limP M k).r ≤ 100; omega⟩, by show -100 ≤ (limP M k).z; omega, by show (limP M k).z ≤ 100; omega⟩)
        refine ac_skip (aq_then (ac_seq (ac_region ?_)))
        refine al_p (q_fieldAddr 10 rfl Tryz.runUnderlying34 rfl Tryz.sizeOf32 (by decide) rfl) (al_p (q_loadSub (i := 0) rfl rfl Tryz.isAgg32 Tryz.sizeOf32 .k10 .k3) (al_new (fun b => .pointer (some ⟨b, 0, none⟩)) (r_alloc Tryz.zeroValue32 rfl) rfl rfl rfl ?_))
        intro b2
        refine al_storeAll (i := 0) rfl rfl rfl rfl Tryz.sizeOf32 rfl rfl .k0 rfl (al_end (aq_then ?_))
        refine ac_seq (ac_region ?_)
        refine al_p (q_move rfl) (al_p (q_move rfl) (al_call Tryz.call31 (.cons rfl (.cons rfl .nil)) rfl rfl (fun w7 hs7 => ?_)))
        refine (picked_any X nx cx xs J nj cj js _ (hS.below hs7.below) (hJ.below hs7.below) (by omega) hbx).mono ?_
        rintro e u7 ⟨A_j, c_j, rfl, N_j, hb_7⟩
        refine ⟨_, rfl, hb_7, ?_⟩
        clear hs7
        refine al_p (q_fieldAddr 2 rfl Tryz.runUnderlying32 rfl Tryz.sizeOf30 (by decide) rfl) (al_store1 (i := 0) rfl rfl rfl rfl Tryz.sizeOf30 .k2 .k0 rfl (al_end (aq_then ?_)))
        refine ac_seq (ac_seq (ac_region ?_))
        refine al_p (q_fieldAddr 0 rfl Tryz.runUnderlying34 rfl Tryz.sizeOf29 (by decide) rfl) (al_p (q_loadSub (i := 1) rfl rfl Tryz.isAgg29 Tryz.sizeOf29 .k0 .k10) (al_p (q_loadAll (i := 0) rfl rfl Tryz.isAgg32 Tryz.sizeOf32 rfl) (al_call Tryz.call30 (.cons rfl (.cons rfl .nil)) rfl rfl (fun w8 hs8 => ?_))))
        refine (rvalid5_any R M ⟨Q.A, Q.B, A_j, Q.la, Q.ca, Q.lb, Q.cb, nx, c_j⟩ (curJ C (lst nx (pkA xs js))) _ (hM.below hs8.below) ⟨hC.coils.below hs8.below, hC.shells.below hs8.below, hs8.newT (.head _) N_j, hC.la, hC.lb, N_j.le.1, hC.ca, hC.cb, N_j.le.2, hC.ka, hC.kb, by show nx ≤ _; omega⟩).mono ?_
        rintro e u8 ⟨rfl, hb_8⟩
        refine ⟨_, rfl, hb_8, ?_⟩
        clear hs8
        refine al_p (q_not rfl) (al_end (aq_then ?_))
        refine ac_cond rfl (fun h2 => ?_) (fun h2 => ?_)
        · skip
          refine ac_seq (ac_region ?_)
          refine al_call Tryz.call10 .nil rfl rfl (fun w9 hs9 => ?_)
          refine (awake5_any _).mono ?_
          rintro e u9 ⟨rfl, hb_9⟩
          refine ⟨_, rfl, hb_9, ?_⟩
          clear hs9
          refine al_p (q_assign rfl) (al_end (aq_then ?_))
          refine ac_ret (aq_thenR (ret1 Tryz.results6 rfl (fun w9 hs => ?_)))
          exact ⟨rfl, hs.below⟩
        · have hvj : validC M (curJ C (lst nx (pkA xs js))) = true := by simpa using h2
          refine ac_skip (aq_then (ac_seq (ac_region ?_)))
          refine al_p (q_fieldAddr 0 rfl Tryz.runUnderlying34 rfl Tryz.sizeOf29 (by decide) rfl) (al_p (q_loadSub (i := 1) rfl rfl Tryz.isAgg29 Tryz.sizeOf29 .k0 .k10) ?_)
          refine al_p (q_fieldAddr 10 rfl Tryz.runUnderlying34 rfl Tryz.sizeOf32 (by decide) rfl) (al_p (q_loadSub (i := 1) rfl rfl Tryz.isAgg32 Tryz.sizeOf32 .k10 .k3) (al_p (q_move rfl) ?_))
          refine al_p (q_fieldAddr 0 rfl Tryz.runUnderlying34 rfl Tryz.sizeOf29 (by decide) rfl) ?_
          refine al_p (q_fieldAddr 3 rfl Tryz.runUnderlying29 rfl Tryz.sizeOf24 (by decide) rfl) (al_p (q_load (i := 1) rfl rfl rfl Tryz.isAgg24) (al_call Tryz.call32 (.cons rfl (.cons rfl (.cons rfl (.cons rfl .nil)))) rfl rfl (fun w10 hs10 => ?_)))
          refine (fluxes5_any R M Q C X nx cx xs R.C R.lc R.cc M.limits _ (hM.below hs10.below) (hC.below hs10.below) (hS.below hs10.below) (hM.limits.below hs10.below) hok (by omega) hnear).mono ?_
          rintro e u10 ⟨A_f, c_f, rfl, N_f0, hb_10⟩
          have N_f : NewT 2 SpanD.cells w10.heap.size u10 A_f R.lc c_f (lst R.lc (fun k => flS M C xs (limP M k))) := N_f0
          refine ⟨_, rfl, hb_10, ?_⟩
          clear hs10
          refine al_p (q_move rfl) (al_p (q_extract rfl rfl) (al_p (q_extract rfl rfl) (al_p (q_assign rfl) (al_p (q_assign rfl) ?_))))
          refine al_end (aq_then ?_)
          refine ac_seq (ac_region ?_)
          refine al_p (q_fieldAddr 0 rfl Tryz.runUnderlying34 rfl Tryz.sizeOf29 (by decide) rfl) (al_p (q_loadSub (i := 1) rfl rfl Tryz.isAgg29 Tryz.sizeOf29 .k0 .k10) ?_)
          refine al_p (q_fieldAddr 10 rfl Tryz.runUnderlying34 rfl Tryz.sizeOf32 (by decide) rfl) (al_p (q_loadSub (i := 1) rfl rfl Tryz.isAgg32 Tryz.sizeOf32 .k10 .k3) (al_p (q_move rfl) (al_call Tryz.call33 (.cons rfl (.cons rfl (.cons rfl .nil))) rfl rfl (fun w11 hs11 => ?_))))
          refine (boundary5Y R M Q C X nx cx xs _ (hM.below hs11.below) (hC.below hs11.below) (hS.below hs11.below) (by omega) hok).mono ?_
          rintro e u11 ⟨rfl, hb_11⟩
          refine ⟨_, rfl, hb_11, ?_⟩
          clear hs11
          refine al_p (q_move rfl) (al_p (q_extract rfl rfl) (al_p (q_extract rfl rfl) (al_new (fun b => .pointer (some ⟨b, 0, none⟩)) (r_alloc Tryz.zeroValue52 rfl) rfl rfl rfl ?_)))
          intro b3
          refine al_storeAll (i := 0) rfl rfl rfl rfl Tryz.sizeOf52 rfl rfl .k0 rfl (al_p (q_assign rfl) (al_end (aq_then ?_)))
          refine ac_seq (ac_seq (ac_region ?_))
          refine al_p (q_move rfl) ?_
          refine al_p (q_same (v' := .bool false) (q_neq rfl rfl) (by simp)) (al_p (q_move rfl) (al_p (q_move rfl) ?_))
          refine al_p (q_same (v' := .bool false) (q_neq rfl rfl) (by simp)) (al_p (q_pickF rfl rfl) (al_p (q_move rfl) (al_p (q_move rfl) (al_p (q_lenS rfl Tryz.runUnderlying45) ?_))))
          refine al_p (q_fieldAddr 0 rfl Tryz.runUnderlying34 rfl Tryz.sizeOf29 (by decide) rfl) ?_
          refine al_p (q_fieldAddr 3 rfl Tryz.runUnderlying29 rfl Tryz.sizeOf24 (by decide) rfl) (al_p (q_load (i := 2) rfl rfl rfl Tryz.isAgg24) (al_p (q_lenS rfl Tryz.runUnderlying24) ?_))
          refine al_p (q_same (v' := .bool false) (q_neq rfl rfl) (by simp)) (al_p (q_pickF rfl rfl) (al_end (aq_then ?_)))
          refine aq_keepL [3, 6, 7, 8, 10, 82] (.cons rfl (.cons rfl (.cons rfl (.cons rfl (.cons rfl (.cons rfl .nil)))))) ?_
          refine ac_condF rfl (ac_skip (aq_then (ac_seq (ac_region ?_))))
          refine al_p (q_assign rfl) (al_end (aq_then ?_))
          refine ac_seq (ac_seq (ac_region ?_))
          refine al_p (q_assign rfl) (al_end (aq_then ?_))
          refine ac_block ?_
          refine ac_loop (β := Nat) (fun k => k ≤ R.lc) (fun k => [(3, (.pointer (some ⟨b1, 0, none⟩))), (6, (.bool false)), (7, (.pointer (some ⟨b2, 0, none⟩))), (8, (.slice A_f R.lc c_f)), (10, (.pointer (some ⟨b3, 0, none⟩))), (12, (.int .i64 (tpJ (fun k => flJ M C (lst nx (pkA xs js)) (limP M k)) k))), (13, (.int .i64 (k : Int)))]) (fun _ => _) (fun k => [(b3, _), (b2, _), (b1, _)]) (fun k => R.lc - k) 0 (by omega) ⟨rfl, rfl, rfl, rfl, rfl, rfl, rfl, trivial⟩ (fun w9 hs => hs) (fun k hF1 => ?_)
          refine ac_seq (ac_seq (ac_region ?_))
          refine al_p (q_move rfl) (al_p (q_move rfl) (al_p (q_lenS rfl Tryz.runUnderlying45) (al_p (q_lss rfl rfl) (al_end (aq_then ?_)))))
          refine ac_cond rfl (fun h3 => ?_) (fun h3 => ?_)
          · have hkn : k < R.lc := by have := of_decide_eq_true h3; omega
            obtain ⟨b31, o31, hA3, hlt3, hget3⟩ := hM.limits.2 (by omega)
            have hx3 := limP_get (M := M) (k := k) (by omega)
            obtain ⟨b_f, o_f, hA_f, hlt_f, hget_f⟩ := N_f.isT.2 (by omega)
            have hx_f := lst_get (fun k => flS M C xs (limP M k)) hkn
            have hq := flJ_bd (M := M) (C := C) (limP M k) hin
            refine ac_skip (aq_then (ac_seq (ac_block (ac_seq ?_))))
            refine ac_draw 14 (by kernel_rfl) (by kernel_rfl) ?_
            refine ah_t 0 (fun w9 hs => hs) rfl rfl (by kernel_rfl) (q_fieldAddr 0 rfl Tryz.runUnderlying34 rfl Tryz.sizeOf29 (by decide) rfl) (ah_t 1 (fun w9 hs => hs) rfl rfl (by kernel_rfl) (q_loadSub (i := 2) rfl rfl Tryz.isAgg29 Tryz.sizeOf29 .k0 .k10) (ah_t 2 (fun w9 hs => hs) rfl rfl (by kernel_rfl) (q_loadAll (i := 1) rfl rfl Tryz.isAgg32 Tryz.sizeOf32 rfl) ?_))
            refine ah_t 3 (fun w9 hs => hs) rfl rfl (by kernel_rfl) (q_fieldAddr 0 rfl Tryz.runUnderlying34 rfl Tryz.sizeOf29 (by decide) rfl) ?_
            refine ah_t 4 (fun w9 hs => hs) rfl rfl (by kernel_rfl) (q_fieldAddr 3 rfl Tryz.runUnderlying29 rfl Tryz.sizeOf24 (by decide) rfl) (ah_t 5 (fun w9 hs => hs) rfl rfl (by kernel_rfl) (q_load (i := 2) rfl rfl rfl Tryz.isAgg24) (ah_t 6 (fun w9 hs => hs) rfl rfl (by kernel_rfl) (q_move rfl) ?_))
            refine ah_t 7 (fun w9 hs => hs) rfl rfl (by kernel_rfl) (q_indexAddrA (i := k) (o31 + k * 2 + 0) hA3 rfl rfl rfl (by omega) Tryz.runUnderlying24 Tryz.sizeOf36 rfl) (ah_t 8 (fun w9 hs => hs) rfl rfl (by kernel_rfl) (q_loadXs (PointD.cells (limP M k)) rfl Tryz.isAgg36 Tryz.sizeOf36 (fun w9 hs j9 v9 h9 => by rw [addr_add]; exact (hs.below.cell (p := ⟨_, _, none⟩) hlt3).trans ((hget3 k _ hx3) j9 v9 h9)) rfl) (ah_one 9 rfl (by kernel_rfl) (fun hok1 hcl1 => ?_)))
            refine al_call Tryz.call34 (.cons rfl (.cons rfl (.cons rfl .nil))) rfl rfl (fun w12 hs12 => ?_)
            refine (fluxJ_any R M ⟨Q.A, Q.B, A_j, Q.la, Q.ca, Q.lb, Q.cb, nx, c_j⟩ C (lst nx (pkA xs js)) (limP M k) _ (hM.below hs12.below) ⟨hC.coils.below hs12.below, hC.shells.below hs12.below, hs12.newT (.tail _ (.tail _ (.tail _ (.head _)))) N_j, hC.la, hC.lb, N_j.le.1, hC.ca, hC.cb, N_j.le.2, hC.ka, hC.kb, by show nx ≤ _; omega⟩ hvj (hnear k hkn)).mono ?_
            rintro e u12 ⟨rfl, hb_12⟩
            refine ⟨_, rfl, hb_12, ?_⟩
            clear hs12
            refine al_end (ah_back hok1 hcl1 (fun w9 hs => (hs.fewer 1 rfl)) ?_)
            refine ah_t 10 (fun w9 hs => (hs.fewer 1 rfl)) rfl rfl (by kernel_rfl) (q_move rfl) (ah_t 11 (fun w9 hs => (hs.fewer 1 rfl)) rfl rfl (by kernel_rfl) (q_extract rfl rfl) (ah_t 12 (fun w9 hs => (hs.fewer 1 rfl)) rfl rfl (by kernel_rfl) (q_extract rfl rfl) (ah_t 13 (fun w9 hs => (hs.fewer 1 rfl)) rfl rfl (by kernel_rfl) (q_assign rfl) (ah_t 14 (fun w9 hs => (hs.fewer 1 rfl)) rfl rfl (by kernel_rfl) (q_assign rfl) ?_))))
            refine ah_done (by kernel_rfl) ?_
            refine aq_then (ac_seq (ac_seq (ac_region ?_)))
            refine al_p (q_move rfl) ?_
            refine al_p (q_same (v' := .bool false) (q_neq rfl rfl) (by simp)) (al_p (q_move rfl) (al_p (q_move rfl) (al_p (q_move rfl) (al_p (q_move rfl) ?_))))
            refine al_p (q_indexAddrA (i := k) (o_f + k * 2 + 0) hA_f rfl rfl rfl (by omega) Tryz.runUnderlying45 Tryz.sizeOf52 rfl) ?_
            refine al_p (q_fieldAddr (o_f + k * 2 + 0) rfl Tryz.runUnderlying52 rfl Tryz.sizeOf3 (by decide) rfl) (al_p (q_loadX rfl Tryz.isAgg3 (fun w9 hs => (cell_blkx ((hs.snap _ _ (.tail _ (.tail _ (.head _)))).2.2.2.1 b_f (N_f.new _ _ hA_f) hlt_f)).trans ((hget_f k _ hx_f) 0 _ rfl))) ?_)
            refine al_p (q_same (v' := .bool false) (q_lss rfl rfl) (by congr 1; exact decide_eq_false (by omega))) (al_p (q_pickF rfl rfl) (al_p (q_move rfl) (al_p (q_move rfl) (al_p (q_move rfl) ?_))))
            refine al_p (q_move rfl) ?_
            refine al_p (q_indexAddrA (i := k) (o_f + k * 2 + 0) hA_f rfl rfl rfl (by omega) Tryz.runUnderlying45 Tryz.sizeOf52 rfl) ?_
            refine al_p (q_fieldAddr (o_f + k * 2 + 1) rfl Tryz.runUnderlying52 rfl Tryz.sizeOf3 (by decide) rfl) (al_p (q_loadX rfl Tryz.isAgg3 (fun w9 hs => (cell_blkx ((hs.snap _ _ (.tail _ (.tail _ (.head _)))).2.2.2.1 b_f (N_f.new _ _ hA_f) hlt_f)).trans ((hget_f k _ hx_f) 1 _ rfl))) ?_)
            refine al_p (q_same (v' := .bool false) (q_gtr rfl rfl) (by congr 1; exact decide_eq_false (by omega))) (al_p (q_pickF rfl rfl) (al_end (aq_then ?_)))
            refine ac_condF rfl (ac_skip (aq_then (ac_seq (ac_region ?_))))
            refine al_p (q_move rfl) (al_p (q_eql rfl rfl) (al_p (q_move rfl) ?_))
            refine aq_split 124 rfl (fun hb3 => ?_) (fun hb3 => ?_)
            · have hk0 : k = 0 := by simp at hb3; omega
              have hnx := tpJ_a (f := (fun k => flJ M C (lst nx (pkA xs js)) (limP M k))) hk0
              refine al_skip rfl rfl rfl (al_skip rfl rfl rfl (al_skip rfl rfl rfl (al_p (q_pickT rfl rfl) (al_end (aq_then ?_)))))
              refine ac_condT rfl (ac_region (al_p (q_move rfl) (al_p (q_assign rfl) (al_end ?_))))
              refine aq_inN (aq_then (ac_region (al_p (q_move rfl) ?_)))
              refine al_p (q_add rfl rfl (by omega)) (al_p (q_assign rfl) (al_end (aq_then ?_)))
              skip
              refine aq_round (k + 1) (by omega) (by omega) ⟨rfl, rfl, rfl, rfl, rfl, (by rw [hnx]; rfl), rfl, trivial⟩ (fun w9 hs => (hs.fewer 1 rfl))
            · have hk0 : k ≠ 0 := by simp at hb3; omega
              refine al_p (q_move rfl) (al_p (q_move rfl) (al_p (q_gtr rfl rfl) (al_p (q_pickF rfl rfl) (al_end (aq_then ?_)))))
              refine ac_cond rfl (fun h4 => ?_) (fun h4 => ?_)
              · have hnx := tpJ_b (f := (fun k => flJ M C (lst nx (pkA xs js)) (limP M k))) hk0 (of_decide_eq_true h4)
                refine ac_region (al_p (q_move rfl) (al_p (q_assign rfl) (al_end (aq_inN ?_))))
                refine aq_then (ac_region (al_p (q_move rfl) ?_))
                refine al_p (q_add rfl rfl (by omega)) (al_p (q_assign rfl) (al_end (aq_then ?_)))
                skip
                refine aq_round (k + 1) (by omega) (by omega) ⟨rfl, rfl, rfl, rfl, rfl, (by rw [hnx]; rfl), rfl, trivial⟩ (fun w9 hs => (hs.fewer 1 rfl))
              · have hnx := tpJ_c (f := (fun k => flJ M C (lst nx (pkA xs js)) (limP M k))) hk0 (by have := of_decide_eq_false h4; omega)
                refine ac_skip (aq_inN (aq_then (ac_region (al_p (q_move rfl) ?_))))
                refine al_p (q_add rfl rfl (by omega)) (al_p (q_assign rfl) (al_end (aq_then ?_)))
                skip
                refine aq_round (k + 1) (by omega) (by omega) ⟨rfl, rfl, rfl, rfl, rfl, (by rw [hnx]; rfl), rfl, trivial⟩ (fun w9 hs => (hs.fewer 1 rfl))
          · have hke : k = R.lc := by have := of_decide_eq_false h3; omega
            have hq : (bdS M C xs).lo ≤ tpJ (fun k => flJ M C (lst nx (pkA xs js)) (limP M k)) k ∧ tpJ (fun k => flJ M C (lst nx (pkA xs js)) (limP M k)) k ≤ (bdS M C xs).hi := by rw [hke, ← n3]; exact tpJ_bdS hlp hin
            refine ac_exit (aq_thenE (aq_thenE (aq_hit (aq_then ?_))))
            refine aq_keepL [6, 10, 12] (.cons rfl (.cons rfl (.cons rfl .nil))) ?_
            refine ac_seq (ac_region ?_)
            refine al_p (q_fieldAddr 0 rfl Tryz.runUnderlying52 rfl Tryz.sizeOf3 (by decide) rfl) (al_p (q_load (i := 0) rfl rfl rfl Tryz.isAgg3) (al_p (q_move rfl) ?_))
            refine al_p (q_same (v' := .bool true) (q_leq rfl rfl) (by congr 1; exact decide_eq_true (by omega))) (al_p (q_move rfl) (al_p (q_move rfl) ?_))
            refine al_p (q_fieldAddr 1 rfl Tryz.runUnderlying52 rfl Tryz.sizeOf3 (by decide) rfl) (al_p (q_load (i := 0) rfl rfl rfl Tryz.isAgg3) ?_)
            refine al_p (q_same (v' := .bool true) (q_leq rfl rfl) (by congr 1; exact decide_eq_true (by omega))) (al_p (q_pickT rfl rfl) (al_p (q_move rfl) (al_call Tryz.call10 .nil rfl rfl (fun w13 hs13 => ?_))))
            refine (awake5_any _).mono ?_
            rintro e u13 ⟨rfl, hb_13⟩
            refine ⟨_, rfl, hb_13, ?_⟩
            clear hs13
            refine al_p (q_pickT rfl rfl) (al_p (q_assign rfl) (al_end (aq_then ?_)))
            refine ac_ret (ret1 Tryz.results6 rfl (fun w9 hs => ?_))
            exact ⟨rfl, hs.below⟩
end
section
set_option maxRecDepth 100000
open Go.ChangeShapes Go.WideShapes Go.ChangeAt Go.RowKit Go.Joins
theorem own : ownKnob Tryz.prog.godebug = none := by kernel_rfl
theorem cells_int : Tryz.prog.cellsOf 3 = 1 := by kernel_rfl
section
variable {H : Type} {enc : TypeId × Value → H}
end
end
section
set_option maxRecDepth 100000
open Go.ChangeShapes Go.WideShapes Go.ChangeAt Go.RowKit Go.Joins Go.Deep
section
variable {H : Type} {enc : TypeId × Value → H}
theorem open_isT {α : Type} {E : α → List Value} {n : Nat} (h0 : ∀ x, (E x).length = n) {t e : TypeId} {W : World} {b0 : Nat} {r : Reach} {v : Value} {d : DataW H} {p : List MemPlace}
    (ht : Tryz.prog.underlying t = some (.slice e)) (hc : Tryz.prog.cellsOf e = n) (hn : 0 < n)
    (dec : ∀ (fuel : Nat) (cs : List Value) (y : DataW H × List MemPlace), DataW.trod enc Tryz.prog W 0 (fun _ => true) true fuel e cs = some y → ∃ x : α, cs = E x)
    (hv : Value.okWide Tryz.prog W r b0 t v) (h : DataW.Trod enc Tryz.prog W 0 (fun _ => true) true t v d p) :
    ∃ (A : Option Addr) (len cap : Nat) (zs : List α), v = .slice A len cap ∧ IsT n E W A len zs ∧ len ≤ maxLen ∧ len ≤ cap ∧ cap ≤ maxLen := by
  obtain ⟨a, len, cap, rfl⟩ := okWide_slice ht hv
  obtain ⟨fuel, hf⟩ := h
  rcases open_slice ht hf with ⟨hcs, hx⟩ | ⟨a', len', cap', m, k, D, Pl, hcs, hb, hl, hm, hmm, hx, hi⟩
  · have hcs : [Value.slice a len cap] = [Value.slice none 0 0] := hcs
    injection hcs with hcs _
    injection hcs with e1 e2 e3
    subst e1 e2 e3
    exact ⟨_, _, _, [], rfl, IsT.nil _ _ _ _, Nat.zero_le _, Nat.zero_le _, Nat.zero_le _⟩
  · have hcs : [Value.slice a len cap] = [Value.slice (some a') len' cap'] := hcs
    injection hcs with hcs _
    injection hcs with e1 e2 e3
    subst e1 e2 e3
    simp only [if_true] at hmm
    subst hmm
    have each : ∀ i, i < len → ∃ x : α, ∀ j, j < n → W.cell? (a'.add (i * n + j)) = (E x)[j]? := fun i hil => by
      obtain ⟨cs', h1, h2⟩ := hi i (by omega)
      obtain ⟨x, rfl⟩ := dec _ _ _ h2
      rw [hc] at h1
      obtain ⟨_, _, hcell⟩ := World.cells?_some h1
      refine ⟨x, fun j hj => ?_⟩
      have := hcell j hj
      rwa [add_add] at this
    by_cases hz : len = 0
    · subst hz
      exact ⟨_, _, _, [], rfl, IsT.nil _ _ _ _, Nat.zero_le _, Nat.zero_le _, hm⟩
    · obtain ⟨x0, _⟩ := each 0 (by omega)
      haveI : Inhabited α := ⟨x0⟩
      obtain ⟨z, hz'⟩ := choose_lt each
      refine ⟨_, _, _, (List.range len).map z, rfl, ⟨by simp, fun _ => ?_⟩, Nat.le_trans hl hm, hl, hm⟩
      have c0 := hz' 0 (by omega) 0 hn
      obtain ⟨v0, hv0⟩ : ∃ v0, (E (z 0))[0]? = some v0 := ⟨_, List.getElem?_eq_getElem (by rw [h0]; exact hn)⟩
      rw [hv0] at c0
      have hlt := World.block_lt_of_cell? W _ c0
      have hsp := World.cell?_spot c0
      obtain ⟨b, off, spot⟩ := a'
      have hspot : spot = none := by simpa [Addr.add] using hsp
      subst hspot
      rw [block_add] at hlt
      refine ⟨b, off, rfl, hlt, fun j x hx i v hv => ?_⟩
      have hj : j < len := by
        have := (List.getElem?_eq_some_iff.1 hx).1
        simpa using this
      have hx' : x = z j := by
        rw [List.getElem?_map, List.getElem?_range hj] at hx
        simpa using hx.symm
      subst hx'
      have hin : i < n := by
        have := (List.getElem?_eq_some_iff.1 hv).1
        rwa [h0] at this
      have := hz' j hj i hin
      rw [add_plain, hv] at this
      rw [← this]
      congr 2
      omega
end
end
section
set_option maxRecDepth 100000
open Go.ChangeShapes Go.WideShapes Go.ChangeAt Go.RowKit Go.Joins Go.Deep
theorem cells_string : Tryz.prog.cellsOf 9 = 1 := by kernel_rfl
section
variable {H : Type} {enc : TypeId × Value → H}
theorem open_isTc {α : Type} {E : α → List Value} {n : Nat} (h0 : ∀ x, (E x).length = n) {t e : TypeId} {W : World} {fuel : Nat} {cs : List Value} {y : DataW H × List MemPlace}
    (ht : Tryz.prog.underlying t = some (.slice e)) (hc : Tryz.prog.cellsOf e = n) (hn : 0 < n)
    (dec : ∀ (fuel : Nat) (cs : List Value) (y : DataW H × List MemPlace), DataW.trod enc Tryz.prog W 0 (fun _ => true) true fuel e cs = some y → ∃ x : α, cs = E x)
    (hf : DataW.trod enc Tryz.prog W 0 (fun _ => true) true fuel t cs = some y) :
    ∃ (A : Option Addr) (len cap : Nat) (zs : List α), cs = [.slice A len cap] ∧ IsT n E W A len zs ∧ len ≤ cap ∧ cap ≤ maxLen := by
  rcases open_slice ht hf with ⟨hcs, hx⟩ | ⟨a', len, cap, m, k, D, Pl, hcs, hb, hl, hm, hmm, hx, hi⟩
  · exact ⟨_, _, _, [], hcs, IsT.nil _ _ _ _, Nat.zero_le _, Nat.zero_le _⟩
  · simp only [if_true] at hmm
    subst hmm
    subst hcs
    have each : ∀ i, i < len → ∃ x : α, ∀ j, j < n → W.cell? (a'.add (i * n + j)) = (E x)[j]? := fun i hil => by
      obtain ⟨cs', h1, h2⟩ := hi i (by omega)
      obtain ⟨x, rfl⟩ := dec _ _ _ h2
      rw [hc] at h1
      obtain ⟨_, _, hcell⟩ := World.cells?_some h1
      refine ⟨x, fun j hj => ?_⟩
      have := hcell j hj
      rwa [add_add] at this
    by_cases hz : len = 0
    · subst hz
      exact ⟨_, _, _, [], rfl, IsT.nil _ _ _ _, Nat.zero_le _, hm⟩
    · obtain ⟨x0, _⟩ := each 0 (by omega)
      haveI : Inhabited α := ⟨x0⟩
      obtain ⟨z, hz'⟩ := choose_lt each
      refine ⟨_, _, _, (List.range len).map z, rfl, ⟨by simp, fun _ => ?_⟩, hl, hm⟩
      have c0 := hz' 0 (by omega) 0 hn
      obtain ⟨v0, hv0⟩ : ∃ v0, (E (z 0))[0]? = some v0 := ⟨_, List.getElem?_eq_getElem (by rw [h0]; exact hn)⟩
      rw [hv0] at c0
      have hlt := World.block_lt_of_cell? W _ c0
      have hsp := World.cell?_spot c0
      obtain ⟨b, off, spot⟩ := a'
      have hspot : spot = none := by simpa [Addr.add] using hsp
      subst hspot
      rw [block_add] at hlt
      refine ⟨b, off, rfl, hlt, fun j x hx i v hv => ?_⟩
      have hj : j < len := by
        have := (List.getElem?_eq_some_iff.1 hx).1
        simpa using this
      have hx' : x = z j := by
        rw [List.getElem?_map, List.getElem?_range hj] at hx
        simpa using hx.symm
      subst hx'
      have hin : i < n := by
        have := (List.getElem?_eq_some_iff.1 hv).1
        rwa [h0] at this
      have := hz' j hj i hin
      rw [add_plain, hv] at this
      rw [← this]
      congr 2
      omega
theorem dec_Coil {W : World} {base : Nat} {spare : Nat → Bool} {held : Bool} (fuel : Nat) (cs : List Value) (y : DataW H × List MemPlace)
    (h : DataW.trod enc Tryz.prog W base spare held fuel 164 cs = some y) : ∃ x : CoilD, cs = x.cells := by
  obtain ⟨xs, n, -, -, hl, hlen, hf⟩ := DataW.trod_struct Tryz.underlying164 h
  rw [show Tryz.prog.cellsOf 164 = 8 by kernel_rfl] at hl
  match xs, hlen with
  | [y0, y1, y2, y3, y4, y5, y6, y7], _ =>
    match cs, hl with
    | [c0, c1, c2, c3, c4, c5, c6, c7], _ =>
      obtain ⟨a0, e0, -, -⟩ := DataW.trod_string Tryz.underlying9 ((hf 0 _ rfl).trans (rfl : _ = some y0))
      obtain ⟨a1, e1, -, -⟩ := DataW.trod_int Tryz.underlying3 ((hf 1 _ rfl).trans (rfl : _ = some y1))
      obtain ⟨a2, e2, -, -⟩ := DataW.trod_int Tryz.underlying3 ((hf 2 _ rfl).trans (rfl : _ = some y2))
      obtain ⟨a3, e3, -, -⟩ := DataW.trod_int Tryz.underlying3 ((hf 3 _ rfl).trans (rfl : _ = some y3))
      obtain ⟨a4, e4, -, -⟩ := DataW.trod_int Tryz.underlying3 ((hf 4 _ rfl).trans (rfl : _ = some y4))
      obtain ⟨a5, e5, -, -⟩ := DataW.trod_int Tryz.underlying3 ((hf 5 _ rfl).trans (rfl : _ = some y5))
      obtain ⟨a6, e6, -, -⟩ := DataW.trod_int Tryz.underlying3 ((hf 6 _ rfl).trans (rfl : _ = some y6))
      obtain ⟨a7, e7, -, -⟩ := DataW.trod_int Tryz.underlying3 ((hf 7 _ rfl).trans (rfl : _ = some y7))
      simp [cells_int, cells_string] at e0
      simp [cells_int, cells_string] at e1
      simp [cells_int, cells_string] at e2
      simp [cells_int, cells_string] at e3
      simp [cells_int, cells_string] at e4
      simp [cells_int, cells_string] at e5
      simp [cells_int, cells_string] at e6
      simp [cells_int, cells_string] at e7
      subst e0 e1 e2 e3 e4 e5 e6 e7
      exact ⟨⟨a0, a1, a2, a3, a4, a5, a6, a7⟩, rfl⟩
theorem dec_Shell {W : World} {base : Nat} {spare : Nat → Bool} {held : Bool} (fuel : Nat) (cs : List Value) (y : DataW H × List MemPlace)
    (h : DataW.trod enc Tryz.prog W base spare held fuel 168 cs = some y) : ∃ x : ShellD, cs = x.cells := by
  obtain ⟨xs, n, -, -, hl, hlen, hf⟩ := DataW.trod_struct Tryz.underlying168 h
  rw [show Tryz.prog.cellsOf 168 = 4 by kernel_rfl] at hl
  match xs, hlen with
  | [y0, y1, y2, y3], _ =>
    match cs, hl with
    | [c0, c1, c2, c3], _ =>
      obtain ⟨a0, e0, -, -⟩ := DataW.trod_int Tryz.underlying3 ((hf 0 _ rfl).trans (rfl : _ = some y0))
      obtain ⟨a1, e1, -, -⟩ := DataW.trod_int Tryz.underlying3 ((hf 1 _ rfl).trans (rfl : _ = some y1))
      obtain ⟨a2, e2, -, -⟩ := DataW.trod_int Tryz.underlying3 ((hf 2 _ rfl).trans (rfl : _ = some y2))
      obtain ⟨a3, e3, -, -⟩ := DataW.trod_int Tryz.underlying3 ((hf 3 _ rfl).trans (rfl : _ = some y3))
      simp [cells_int, cells_string] at e0
      simp [cells_int, cells_string] at e1
      simp [cells_int, cells_string] at e2
      simp [cells_int, cells_string] at e3
      subst e0 e1 e2 e3
      exact ⟨⟨a0, a1, a2, a3⟩, rfl⟩
theorem dec_Point {W : World} {base : Nat} {spare : Nat → Bool} {held : Bool} (fuel : Nat) (cs : List Value) (y : DataW H × List MemPlace)
    (h : DataW.trod enc Tryz.prog W base spare held fuel 36 cs = some y) : ∃ x : PointD, cs = x.cells := by
  obtain ⟨xs, n, -, -, hl, hlen, hf⟩ := DataW.trod_struct Tryz.underlying36 h
  rw [show Tryz.prog.cellsOf 36 = 2 by kernel_rfl] at hl
  match xs, hlen with
  | [y0, y1], _ =>
    match cs, hl with
    | [c0, c1], _ =>
      obtain ⟨a0, e0, -, -⟩ := DataW.trod_int Tryz.underlying3 ((hf 0 _ rfl).trans (rfl : _ = some y0))
      obtain ⟨a1, e1, -, -⟩ := DataW.trod_int Tryz.underlying3 ((hf 1 _ rfl).trans (rfl : _ = some y1))
      simp [cells_int, cells_string] at e0
      simp [cells_int, cells_string] at e1
      subst e0 e1
      exact ⟨⟨a0, a1⟩, rfl⟩
theorem dec_Sensor {W : World} {base : Nat} {spare : Nat → Bool} {held : Bool} (fuel : Nat) (cs : List Value) (y : DataW H × List MemPlace)
    (h : DataW.trod enc Tryz.prog W base spare held fuel 174 cs = some y) : ∃ x : SensorD, cs = x.cells := by
  obtain ⟨xs, n, -, -, hl, hlen, hf⟩ := DataW.trod_struct Tryz.underlying174 h
  rw [show Tryz.prog.cellsOf 174 = 5 by kernel_rfl] at hl
  match xs, hlen with
  | [y0, y1, y2, y3, y4], _ =>
    match cs, hl with
    | [c0, c1, c2, c3, c4], _ =>
      obtain ⟨a0, e0, -, -⟩ := DataW.trod_string Tryz.underlying9 ((hf 0 _ rfl).trans (rfl : _ = some y0))
      obtain ⟨a1, e1, -, -⟩ := DataW.trod_int Tryz.underlying3 ((hf 1 _ rfl).trans (rfl : _ = some y1))
      obtain ⟨a2, e2, -, -⟩ := DataW.trod_int Tryz.underlying3 ((hf 2 _ rfl).trans (rfl : _ = some y2))
      obtain ⟨a3, e3, -, -⟩ := DataW.trod_int Tryz.underlying3 ((hf 3 _ rfl).trans (rfl : _ = some y3))
      obtain ⟨a4, e4, -, -⟩ := DataW.trod_int Tryz.underlying3 ((hf 4 _ rfl).trans (rfl : _ = some y4))
      simp [cells_int, cells_string] at e0
      simp [cells_int, cells_string] at e1
      simp [cells_int, cells_string] at e2
      simp [cells_int, cells_string] at e3
      simp [cells_int, cells_string] at e4
      subst e0 e1 e2 e3 e4
      exact ⟨⟨a0, a1, a2, a3, a4⟩, rfl⟩
theorem dec_Span {W : World} {base : Nat} {spare : Nat → Bool} {held : Bool} (fuel : Nat) (cs : List Value) (y : DataW H × List MemPlace)
    (h : DataW.trod enc Tryz.prog W base spare held fuel 52 cs = some y) : ∃ x : SpanD, cs = x.cells := by
  obtain ⟨xs, n, -, -, hl, hlen, hf⟩ := DataW.trod_struct Tryz.underlying52 h
  rw [show Tryz.prog.cellsOf 52 = 2 by kernel_rfl] at hl
  match xs, hlen with
  | [y0, y1], _ =>
    match cs, hl with
    | [c0, c1], _ =>
      obtain ⟨a0, e0, -, -⟩ := DataW.trod_int Tryz.underlying3 ((hf 0 _ rfl).trans (rfl : _ = some y0))
      obtain ⟨a1, e1, -, -⟩ := DataW.trod_int Tryz.underlying3 ((hf 1 _ rfl).trans (rfl : _ = some y1))
      simp [cells_int, cells_string] at e0
      simp [cells_int, cells_string] at e1
      subst e0 e1
      exact ⟨⟨a0, a1⟩, rfl⟩
structure OpM (w : World) (R : MachR) (M : MachD) : Prop where
  coils : IsT 8 CoilD.cells w R.A R.la M.coils
  shells : IsT 4 ShellD.cells w R.B R.lb M.shells
  limits : IsT 2 PointD.cells w R.C R.lc M.limits
  sensors : IsT 5 SensorD.cells w R.D R.ld M.sensors
  la : R.la ≤ R.ca
  lb : R.lb ≤ R.cb
  lc : R.lc ≤ R.cc
  ld : R.ld ≤ R.cd
  ca : R.ca ≤ 9223372036854775807
  cb : R.cb ≤ 9223372036854775807
  cc : R.cc ≤ 9223372036854775807
  cd : R.cd ≤ 9223372036854775807
theorem OpM.isM {w : World} {R : MachR} {M : MachD} (h : OpM w R M) (ka : R.la ≤ 1000000000000000) (kb : R.lb ≤ 1000000000000000) (kc : R.lc ≤ 1000000000000000) (kd : R.ld ≤ 1000000000000000) : IsM w R M :=
  ⟨h.coils, h.shells, h.limits, h.sensors, h.la, h.lb, h.lc, h.ld, h.ca, h.cb, h.cc, h.cd, ka, kb, kc, kd⟩
theorem open_spans {W : World} {b0 : Nat} {r : Reach} {v : Value} {d : DataW H} {p : List MemPlace}
    (hv : Value.okWide Tryz.prog W r b0 45 v) (h : DataW.Trod enc Tryz.prog W 0 (fun _ => true) true 45 v d p) :
    ∃ (A : Option Addr) (len cap : Nat) (zs : List SpanD), v = .slice A len cap ∧ IsT 2 SpanD.cells W A len zs ∧ len ≤ maxLen ∧ len ≤ cap ∧ cap ≤ maxLen :=
  open_isT (n := 2) (E := SpanD.cells) (fun _ => rfl) Tryz.underlying45 (by kernel_rfl) (by decide) dec_Span hv h
theorem shut_spans {W W' : World} {v : Value} {d : DataW H} {p : List MemPlace} (h : DataW.Trod enc Tryz.prog W 0 (fun _ => true) true 45 v d p) (hb : Below W.heap.size W W') (hlt : ∀ x ∈ p, x.block < W.heap.size) :
    DataW.Trod enc Tryz.prog W' 0 (fun b => decide (b < W.heap.size)) true 45 v d p :=
  Below.trod (by kernel_rfl) (by kernel_rfl) (of_decide_eq_true (by kernel_rfl)) h hb hlt
end
end
end Go.Proofs.YtogcjgjhmlifgaaGreat
