import Derived.Test.YtogcjgjhmlifgaaGreatOBJ
import Derived.Test.YtogcjgjhmlifgaaGreatRows
import Derived.KernelRfl
import Derived.Laws.StructEq
namespace Go.Proofs.YtogcjgjhmlifgaaGreat
set_option linter.unusedVariables false
set_option linter.unusedSimpArgs false
section
open Go.RowKit
set_option maxRecDepth 100000 in
theorem rvbox9_any (R : MachR) (M : MachD) (X : Option Addr) (nx cx : Nat) (xs : List SpanD) (t : Int) (w : World) (hM : IsM w R M) (hS : IsT 2 SpanD.cells w X nx xs) : Calls Tryz.prog 29 #[(.agg (mCs R M).toArray), (.int .i64 t), (.slice X nx cx)] w (Ret (.bool (boxB M t xs)) w) := by
  have n1 := hS.1
  refine calls_ax (vs := [(.agg (mCs R M).toArray), (.int .i64 t), (.slice X nx cx)]) Tryz.func29 rfl rfl ?_
  refine ac_seq (ac_region ?_)
  refine al_new (fun b => .pointer (some ⟨b, 0, none⟩)) (r_box rfl rfl) rfl rfl rfl ?_
  intro b1
  refine al_p (q_assign rfl) (al_end (aq_then ?_))
  refine ac_seq (ac_seq (ac_region ?_))
  refine al_p (q_loadAll (i := 0) rfl rfl Tryz.isAgg29 Tryz.sizeOf29 rfl) (al_call Tryz.call67 (.cons rfl .nil) rfl rfl (fun w1 hs1 => ?_))
  refine (rpcheck_any R M _ (hM.below hs1.below)).mono ?_
  rintro e u1 ⟨rfl, hb_1⟩
  refine ⟨_, rfl, hb_1, ?_⟩
  clear hs1
  refine al_p (q_neq rfl rfl) (al_p (q_move rfl) ?_)
  refine aq_split 11 rfl (fun hb1 => ?_) (fun hb1 => ?_)
  · have hE : boxB M t xs = false := boxB_bad (Or.inl (bne_iff_ne.1 hb1))
    refine al_skip rfl rfl rfl (al_skip rfl rfl rfl (al_skip rfl rfl rfl (al_skip rfl rfl rfl (al_skip rfl rfl rfl ?_))))
    refine al_p (q_pickT rfl rfl) (al_end (aq_then ?_))
    refine ac_condT rfl (ac_seq (ac_region ?_))
    refine al_p (q_assign rfl) (al_end (aq_then ?_))
    refine ac_ret (aq_thenR (ret1 Tryz.results29 rfl (fun w9 hs => ?_)))
    first | (rw [hE]; exact ⟨rfl, hs.below⟩) | (have hE : boxB M t xs = true := boxB_yes hc (by omega) (fun j hj => hF1.2 j (by omega)); rw [hE]; exact ⟨rfl, hs.below⟩)
  · have hc : checkC M = 0 := by simpa using hb1
    have hcn := cellN_eq hc
    have hcs : cellsC M = (cellN M : Int) := by unfold cellsC; rw [if_pos hc, hcn.1]
    refine al_p (q_move rfl) (al_p (q_lenS rfl Tryz.runUnderlying45) (al_p (q_loadAll (i := 0) rfl rfl Tryz.isAgg29 Tryz.sizeOf29 rfl) (al_call Tryz.call68 (.cons rfl .nil) rfl rfl (fun w2 hs2 => ?_))))
    refine (rpcells_any R M _ (hM.below hs2.below)).mono ?_
    rintro e u2 ⟨rfl, hb_2⟩
    refine ⟨_, rfl, hb_2, ?_⟩
    clear hs2
    refine al_p (q_neq rfl rfl) (al_p (q_pickF rfl rfl) (al_end (aq_then ?_)))
    refine ac_cond rfl (fun h1 => ?_) (fun h1 => ?_)
    · have hE : boxB M t xs = false := boxB_bad (Or.inr (fun e => by rw [hcs] at h1; simp at h1; omega))
      refine ac_seq (ac_region ?_)
      refine al_p (q_assign rfl) (al_end (aq_then ?_))
      refine ac_ret (aq_thenR (ret1 Tryz.results29 rfl (fun w9 hs => ?_)))
      first | (rw [hE]; exact ⟨rfl, hs.below⟩) | (have hE : boxB M t xs = true := boxB_yes hc (by omega) (fun j hj => hF1.2 j (by omega)); rw [hE]; exact ⟨rfl, hs.below⟩)
    · have hnx : nx = cellN M := by rw [hcs] at h1; simp at h1; omega
      refine ac_skip (aq_then (ac_seq (ac_seq (ac_region ?_))))
      refine al_p (q_assign rfl) (al_end (aq_then ?_))
      refine ac_block (ac_loop (β := Nat) (fun k => k ≤ nx ∧ ∀ j, j < k → badX t (spA xs j) = false) (fun k => [(1, (.int .i64 t)), (2, (.slice X nx cx)), (6, (.bool false)), (7, (.int .i64 (k : Int)))]) (fun _ => _) (fun k => [(b1, _)]) (fun k => nx - k) 0 ⟨by omega, fun j h => by omega⟩ ⟨rfl, rfl, rfl, rfl, trivial⟩ (fun w9 hs => hs) (fun k hF1 => ?_))
      refine ac_seq (ac_seq (ac_region ?_))
      refine al_p (q_move rfl) (al_p (q_move rfl) (al_p (q_lenS rfl Tryz.runUnderlying45) (al_p (q_lss rfl rfl) (al_end (aq_then ?_)))))
      refine ac_cond rfl (fun h2 => ?_) (fun h2 => ?_)
      · have hkn : k < nx := by have := of_decide_eq_true h2; omega
        obtain ⟨b11, o11, hA1, hlt1, hget1⟩ := hS.2 (by omega)
        have hx1 := spA_get (x := xs) (k := k) (by omega)
        refine ac_skip (aq_then (ac_seq (ac_block (ac_seq ?_))))
        refine ac_draw 27 (by kernel_rfl) (by kernel_rfl) ?_
        refine ah_t 0 (fun w9 hs => hs) rfl rfl (by kernel_rfl) (q_move rfl) (ah_t 1 (fun w9 hs => hs) rfl rfl (by kernel_rfl) (q_move rfl) ?_)
        refine ah_t 2 (fun w9 hs => hs) rfl rfl (by kernel_rfl) (q_indexAddrA (i := k) (o11 + k * 2 + 0) hA1 rfl rfl rfl (by omega) Tryz.runUnderlying45 Tryz.sizeOf52 rfl) ?_
        refine ah_t 3 (fun w9 hs => hs) rfl rfl (by kernel_rfl) (q_fieldAddr (o11 + k * 2 + 0) rfl Tryz.runUnderlying52 rfl Tryz.sizeOf3 (by decide) rfl) (ah_t 4 (fun w9 hs => hs) rfl rfl (by kernel_rfl) (q_loadX rfl Tryz.isAgg3 (fun w9 hs => (hs.below.cell (p := ⟨_, _, none⟩) hlt1).trans ((hget1 k _ hx1) 0 _ rfl))) (ah_t 5 (fun w9 hs => hs) rfl rfl (by kernel_rfl) (q_lss rfl rfl) (ah_t 6 (fun w9 hs => hs) rfl rfl (by kernel_rfl) (q_move rfl) ?_)))
        refine ah_split 30 rfl (fun hb2 => ?_) (fun hb2 => ?_)
        · have g7 := of_decide_eq_true hb2
          have hbd : badX t (spA xs k) = true := by simp [badX]; omega
          have hE : boxB M t xs = false := boxB_no (j := k) (by omega) hbd
          refine ah_s 7 (fun w9 hs => hs) rfl rfl (by kernel_rfl) (ah_s 8 (fun w9 hs => hs) rfl rfl (by kernel_rfl) (ah_s 9 (fun w9 hs => hs) rfl rfl (by kernel_rfl) (ah_s 10 (fun w9 hs => hs) rfl rfl (by kernel_rfl) (ah_s 11 (fun w9 hs => hs) rfl rfl (by kernel_rfl) ?_))))
          refine ah_s 12 (fun w9 hs => hs) rfl rfl (by kernel_rfl) (ah_s 13 (fun w9 hs => hs) rfl rfl (by kernel_rfl) (ah_s 14 (fun w9 hs => hs) rfl rfl (by kernel_rfl) (ah_s 15 (fun w9 hs => hs) rfl rfl (by kernel_rfl) (ah_s 16 (fun w9 hs => hs) rfl rfl (by kernel_rfl) ?_))))
          refine ah_s 17 (fun w9 hs => hs) rfl rfl (by kernel_rfl) (ah_t 18 (fun w9 hs => hs) rfl rfl (by kernel_rfl) (q_pickT rfl rfl) (ah_t 19 (fun w9 hs => hs) rfl rfl (by kernel_rfl) (q_move rfl) (ah_s 20 (fun w9 hs => hs) rfl rfl (by kernel_rfl) (ah_s 21 (fun w9 hs => hs) rfl rfl (by kernel_rfl) ?_))))
          refine ah_s 22 (fun w9 hs => hs) rfl rfl (by kernel_rfl) (ah_s 23 (fun w9 hs => hs) rfl rfl (by kernel_rfl) (ah_s 24 (fun w9 hs => hs) rfl rfl (by kernel_rfl) (ah_s 25 (fun w9 hs => hs) rfl rfl (by kernel_rfl) (ah_s 26 (fun w9 hs => hs) rfl rfl (by kernel_rfl) ?_))))
          refine ah_t 27 (fun w9 hs => hs) rfl rfl (by kernel_rfl) (q_pickT rfl rfl) (ah_done (by kernel_rfl) ?_)
          refine aq_then (ac_condT rfl (ac_seq (ac_region ?_)))
          refine al_p (q_assign rfl) (al_end (aq_then ?_))
          refine ac_ret (aq_inR (aq_thenR (aq_thenR (aq_inR ?_))))
          refine aq_thenR (ret1 Tryz.results29 rfl (fun w9 hs => ?_))
          first | (rw [hE]; exact ⟨rfl, hs.below⟩) | (have hE : boxB M t xs = true := boxB_yes hc (by omega) (fun j hj => hF1.2 j (by omega)); rw [hE]; exact ⟨rfl, hs.below⟩)
        · have g7 := of_decide_eq_false hb2
          refine ah_t 7 (fun w9 hs => hs) rfl rfl (by kernel_rfl) (q_move rfl) (ah_t 8 (fun w9 hs => hs) rfl rfl (by kernel_rfl) (q_move rfl) ?_)
          refine ah_t 9 (fun w9 hs => hs) rfl rfl (by kernel_rfl) (q_indexAddrA (i := k) (o11 + k * 2 + 0) hA1 rfl rfl rfl (by omega) Tryz.runUnderlying45 Tryz.sizeOf52 rfl) ?_
          refine ah_t 10 (fun w9 hs => hs) rfl rfl (by kernel_rfl) (q_fieldAddr (o11 + k * 2 + 0) rfl Tryz.runUnderlying52 rfl Tryz.sizeOf3 (by decide) rfl) (ah_t 11 (fun w9 hs => hs) rfl rfl (by kernel_rfl) (q_loadX rfl Tryz.isAgg3 (fun w9 hs => (hs.below.cell (p := ⟨_, _, none⟩) hlt1).trans ((hget1 k _ hx1) 0 _ rfl))) (ah_t 12 (fun w9 hs => hs) rfl rfl (by kernel_rfl) (q_move rfl) (ah_t 13 (fun w9 hs => hs) rfl rfl (by kernel_rfl) (q_move rfl) ?_)))
          refine ah_t 14 (fun w9 hs => hs) rfl rfl (by kernel_rfl) (q_indexAddrA (i := k) (o11 + k * 2 + 0) hA1 rfl rfl rfl (by omega) Tryz.runUnderlying45 Tryz.sizeOf52 rfl) ?_
          refine ah_t 15 (fun w9 hs => hs) rfl rfl (by kernel_rfl) (q_fieldAddr (o11 + k * 2 + 1) rfl Tryz.runUnderlying52 rfl Tryz.sizeOf3 (by decide) rfl) (ah_t 16 (fun w9 hs => hs) rfl rfl (by kernel_rfl) (q_loadX rfl Tryz.isAgg3 (fun w9 hs => (hs.below.cell (p := ⟨_, _, none⟩) hlt1).trans ((hget1 k _ hx1) 1 _ rfl))) (ah_t 17 (fun w9 hs => hs) rfl rfl (by kernel_rfl) (q_gtr rfl rfl) (ah_t 18 (fun w9 hs => hs) rfl rfl (by kernel_rfl) (q_pickF rfl rfl) (ah_t 19 (fun w9 hs => hs) rfl rfl (by kernel_rfl) (q_move rfl) ?_))))
          refine ah_split 43 rfl (fun hb3 => ?_) (fun hb3 => ?_)
          · have g14 := of_decide_eq_true hb3
            have hbd : badX t (spA xs k) = true := by simp [badX]; omega
            have hE : boxB M t xs = false := boxB_no (j := k) (by omega) hbd
            refine ah_s 20 (fun w9 hs => hs) rfl rfl (by kernel_rfl) (ah_s 21 (fun w9 hs => hs) rfl rfl (by kernel_rfl) (ah_s 22 (fun w9 hs => hs) rfl rfl (by kernel_rfl) (ah_s 23 (fun w9 hs => hs) rfl rfl (by kernel_rfl) (ah_s 24 (fun w9 hs => hs) rfl rfl (by kernel_rfl) ?_))))
            refine ah_s 25 (fun w9 hs => hs) rfl rfl (by kernel_rfl) (ah_s 26 (fun w9 hs => hs) rfl rfl (by kernel_rfl) (ah_t 27 (fun w9 hs => hs) rfl rfl (by kernel_rfl) (q_pickT rfl rfl) (ah_done (by kernel_rfl) ?_)))
            refine aq_then (ac_condT rfl (ac_seq (ac_region ?_)))
            refine al_p (q_assign rfl) (al_end (aq_then ?_))
            refine ac_ret (aq_inR (aq_thenR (aq_thenR (aq_inR ?_))))
            refine aq_thenR (ret1 Tryz.results29 rfl (fun w9 hs => ?_))
            first | (rw [hE]; exact ⟨rfl, hs.below⟩) | (have hE : boxB M t xs = true := boxB_yes hc (by omega) (fun j hj => hF1.2 j (by omega)); rw [hE]; exact ⟨rfl, hs.below⟩)
          · have g14 := of_decide_eq_false hb3
            refine ah_t 20 (fun w9 hs => hs) rfl rfl (by kernel_rfl) (q_move rfl) (ah_t 21 (fun w9 hs => hs) rfl rfl (by kernel_rfl) (q_move rfl) ?_)
            refine ah_t 22 (fun w9 hs => hs) rfl rfl (by kernel_rfl) (q_indexAddrA (i := k) (o11 + k * 2 + 0) hA1 rfl rfl rfl (by omega) Tryz.runUnderlying45 Tryz.sizeOf52 rfl) ?_
            refine ah_t 23 (fun w9 hs => hs) rfl rfl (by kernel_rfl) (q_fieldAddr (o11 + k * 2 + 1) rfl Tryz.runUnderlying52 rfl Tryz.sizeOf3 (by decide) rfl) (ah_t 24 (fun w9 hs => hs) rfl rfl (by kernel_rfl) (q_loadX rfl Tryz.isAgg3 (fun w9 hs => (hs.below.cell (p := ⟨_, _, none⟩) hlt1).trans ((hget1 k _ hx1) 1 _ rfl))) (ah_t 25 (fun w9 hs => hs) rfl rfl (by kernel_rfl) (q_move rfl) (ah_t 26 (fun w9 hs => hs) rfl rfl (by kernel_rfl) (q_gtr rfl rfl) (ah_t 27 (fun w9 hs => hs) rfl rfl (by kernel_rfl) (q_pickF rfl rfl) ?_))))
            refine ah_done (by kernel_rfl) ?_
            refine aq_then ?_
            refine ac_cond rfl (fun h3 => ?_) (fun h3 => ?_)
            · have g2 := of_decide_eq_true h3
              have hbd : badX t (spA xs k) = true := by simp [badX]; omega
              have hE : boxB M t xs = false := boxB_no (j := k) (by omega) hbd
              refine ac_seq (ac_region ?_)
              refine al_p (q_assign rfl) (al_end (aq_then ?_))
              refine ac_ret (aq_inR (aq_thenR (aq_thenR (aq_inR ?_))))
              refine aq_thenR (ret1 Tryz.results29 rfl (fun w9 hs => ?_))
              first | (rw [hE]; exact ⟨rfl, hs.below⟩) | (have hE : boxB M t xs = true := boxB_yes hc (by omega) (fun j hj => hF1.2 j (by omega)); rw [hE]; exact ⟨rfl, hs.below⟩)
            · have g2 := of_decide_eq_false h3
              have hbad : badX t (spA xs k) = false := by simp [badX]; omega
              refine ac_skip (aq_inN (aq_then (ac_region (al_p (q_move rfl) ?_))))
              refine al_p (q_add rfl rfl (by omega)) (al_p (q_assign rfl) (al_end (aq_then ?_)))
              skip
              refine aq_round (k + 1) (by omega) ⟨by omega, fun j h1 => (Nat.lt_or_ge j k).elim (fun g => hF1.2 j g) (fun g => by (have e : j = k := by omega); rw [e]; exact hbad)⟩ ⟨rfl, rfl, rfl, rfl, trivial⟩ (fun w9 hs => hs)
      · have hke : k = nx := by have := of_decide_eq_false h2; omega
        refine ac_exit (aq_thenE (aq_thenE (aq_hit (aq_then ?_))))
        refine ac_seq (ac_region ?_)
        refine al_p (q_assign rfl) (al_end (aq_then ?_))
        refine ac_ret (ret1 Tryz.results29 rfl (fun w9 hs => ?_))
        first | (rw [hE]; exact ⟨rfl, hs.below⟩) | (have hE : boxB M t xs = true := boxB_yes hc (by omega) (fun j hj => hF1.2 j (by omega)); rw [hE]; exact ⟨rfl, hs.below⟩)
end
end Go.Proofs.YtogcjgjhmlifgaaGreat
