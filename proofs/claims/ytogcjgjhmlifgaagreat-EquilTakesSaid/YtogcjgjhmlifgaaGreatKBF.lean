import Derived.Test.YtogcjgjhmlifgaaGreatKBD
import Derived.Test.YtogcjgjhmlifgaaGreatKBE
import Derived.Test.YtogcjgjhmlifgaaGreatRows
import Derived.KernelRfl
import Derived.Laws.StructEq
namespace Go.Proofs.YtogcjgjhmlifgaaGreat
set_option linter.unusedVariables false
set_option linter.unusedSimpArgs false
section
open Go.RowKit
set_option maxRecDepth 100000 in
theorem rmost_any (a b : Int) (w : World) : Calls Tryz.prog 81 #[(.int .i64 a), (.int .i64 b)] w (Ret (.int .i64 (max a b)) w) := by
  refine calls_ax (vs := [(.int .i64 a), (.int .i64 b)]) Tryz.func81 rfl rfl ?_
  refine ac_seq (ac_region ?_)
  refine al_p (q_assign rfl) (al_end (aq_then ?_))
  refine ac_seq (ac_seq (ac_region ?_))
  refine al_p (q_move rfl) (al_p (q_move rfl) (al_p (q_gtr rfl rfl) (al_end (aq_then ?_))))
  refine ac_cond rfl (fun h1 => ?_) (fun h1 => ?_)
  · have g := of_decide_eq_true h1
    refine ac_seq (ac_region ?_)
    refine al_p (q_move rfl) (al_p (q_assign rfl) (al_end (aq_then ?_)))
    refine ac_ret (aq_thenR (ret1 Tryz.results81 rfl (fun w9 hs => ?_)))
    refine ⟨?_, hs.below⟩; congr 2; omega
  · have g := of_decide_eq_false h1
    refine ac_skip (aq_then (ac_seq (ac_region ?_)))
    refine al_p (q_move rfl) (al_p (q_assign rfl) (al_end (aq_then ?_)))
    refine ac_ret (ret1 Tryz.results81 rfl (fun w9 hs => ?_))
    refine ⟨?_, hs.below⟩; congr 2; omega
set_option maxRecDepth 100000 in
theorem rleast_any (a b : Int) (w : World) : Calls Tryz.prog 97 #[(.int .i64 a), (.int .i64 b)] w (Ret (.int .i64 (min a b)) w) := by
  refine calls_ax (vs := [(.int .i64 a), (.int .i64 b)]) Tryz.func97 rfl rfl ?_
  refine ac_seq (ac_region ?_)
  refine al_p (q_assign rfl) (al_end (aq_then ?_))
  refine ac_seq (ac_seq (ac_region ?_))
  refine al_p (q_move rfl) (al_p (q_move rfl) (al_p (q_lss rfl rfl) (al_end (aq_then ?_))))
  refine ac_cond rfl (fun h1 => ?_) (fun h1 => ?_)
  · have g := of_decide_eq_true h1
    refine ac_seq (ac_region ?_)
    refine al_p (q_move rfl) (al_p (q_assign rfl) (al_end (aq_then ?_)))
    refine ac_ret (aq_thenR (ret1 Tryz.results97 rfl (fun w9 hs => ?_)))
    refine ⟨?_, hs.below⟩; congr 2; omega
  · have g := of_decide_eq_false h1
    refine ac_skip (aq_then (ac_seq (ac_region ?_)))
    refine al_p (q_move rfl) (al_p (q_assign rfl) (al_end (aq_then ?_)))
    refine ac_ret (ret1 Tryz.results97 rfl (fun w9 hs => ?_))
    refine ⟨?_, hs.below⟩; congr 2; omega
theorem eqn_bl_apiSpan_0_1 (a0 a1 : Value) (ha0 : a0.oneCell' = true) (ha1 : a1.oneCell' = true) : ∀ w, (Instr.build 52 #[(0, a0), (1, a1)]).run Tryz.prog w = .ok (.agg #[a0, a1]) w := by
  have ea0 : a0.cells = #[a0] := cells_one ha0
  have ea1 : a1.cells = #[a1] := cells_one ha1
  intro w; simp [Instr.build, Instr.fill, cells_agg, Tryz.runUnderlying52, Tryz.zeroValue52, Tryz.sizeOf3, ea0, ea1]
theorem eqn_bs_apiSpan_1_0_ (c0_0 c0_1 : Value) : ∀ w, (Instr.buildSlice 45 1 #[(0, .agg #[c0_0, c0_1])]).run Tryz.prog w = .ok (.slice (some ⟨w.heap.size, 0, none⟩) 1 1) (w.alloc (.cells [c0_0, c0_1].toArray 52)) := by
  intro w; (simp [Instr.buildSlice, Instr.fill, cells_agg, newRow, Tryz.runUnderlying45, Tryz.zeroValue52, Tryz.sizeOf52] <;> (rw [(by kernel_rfl : Array.range 2 = #[0, 1])]; simp [Value.cells]))
set_option maxRecDepth 100000 in
theorem rmet_any (X Y : Option Addr) (nx cx ny cy : Nat) (xs ys : List SpanD) (w : World) (hS : IsT 2 SpanD.cells w X nx xs) (hT : IsT 2 SpanD.cells w Y ny ys) (hn : nx ≤ ny) (hl : nx ≤ 1000) : Calls Tryz.prog 55 #[(.slice X nx cx), (.slice Y ny cy)] w (fun e w' => ∃ A c, e = .returned (.tuple #[.slice A nx c, .bool (decide (mtP xs ys nx))]) ∧ NewT 2 SpanD.cells w.heap.size w' A nx c (lst nx (mtA xs ys)) ∧ Below w.heap.size w w') := by
  have n1 := hS.1
  have n2 := hT.1
  refine calls_ax (vs := [(.slice X nx cx), (.slice Y ny cy)]) Tryz.func55 rfl rfl ?_
  refine ac_seq (ac_region ?_)
  refine al_p (q_assign rfl) (al_p (q_assign rfl) (al_end (aq_then ?_)))
  refine ac_seq (ac_region ?_)
  refine al_p (q_assign rfl) (al_end (aq_then ?_))
  refine ac_seq (ac_region ?_)
  refine al_p (q_assign rfl) (al_end (aq_then ?_))
  refine ac_seq (ac_seq (ac_region ?_))
  refine al_p (q_assign rfl) (al_end (aq_then ?_))
  refine ac_block ?_
  refine ac_loop (β := Nat × Gr) (fun p => p.1 ≤ nx ∧ gok p.2 p.1 2 (mtC xs ys p.1)) (fun p => [(0, (.slice X nx cx)), (1, (.slice Y ny cy)), (4, (.slice none 0 0)), (5, (.bool false)), (6, (.slice (gA p.2) p.1 (gC p.2))), (7, (.bool (decide (mtP xs ys p.1)))), (8, (.int .i64 (p.1 : Int)))]) (fun _ => _) (fun p => (gt p.2 (mtC xs ys p.1) ++ ([]))) (fun p => nx - p.1) (0, none) ⟨Nat.zero_le _, gok.none 2⟩ ⟨rfl, rfl, rfl, rfl, rfl, (by rw [decide_eq_true (show mtP xs ys 0 from fun k h => absurd h (Nat.not_lt_zero k))]; rfl), rfl, trivial⟩ (fun w9 hs => (by rw [show gt none (mtC xs ys 0) = [] from rfl, List.nil_append]; exact hs)) (fun p hF1 => ?_)
  obtain ⟨hpx, hgp⟩ := hF1
  refine ac_seq (ac_seq (ac_region ?_))
  refine al_p (q_move rfl) (al_p (q_move rfl) (al_p (q_lenS rfl Tryz.runUnderlying45) (al_p (q_lss rfl rfl) (al_end (aq_then ?_)))))
  refine ac_cond rfl (fun h1 => ?_) (fun h1 => ?_)
  · have hkn : p.1 < nx := by have := of_decide_eq_true h1; omega
    obtain ⟨b11, o11, hA1, hlt1, hget1⟩ := hS.2 (by omega)
    have hx1 := spA_get (x := xs) (k := p.1) (by omega)
    obtain ⟨b21, o21, hA2, hlt2, hget2⟩ := hT.2 (by omega)
    have hx2 := spA_get (x := ys) (k := p.1) (by omega)
    refine ac_skip (aq_then (ac_seq (ac_block (ac_seq ?_))))
    refine ac_drawF 24 .z (by kernel_rfl) (by kernel_rfl) ?_
    refine ah_t 0 (fun w9 hs => (hs.front (.z))) rfl rfl (by kernel_rfl) (q_move rfl) (ah_t 1 (fun w9 hs => (hs.front (.z))) rfl rfl (by kernel_rfl) (q_move rfl) ?_)
    refine ah_t 2 (fun w9 hs => (hs.front (.z))) rfl rfl (by kernel_rfl) (q_indexAddrA (i := p.1) (o11 + p.1 * 2 + 0) hA1 rfl rfl rfl (by omega) Tryz.runUnderlying45 Tryz.sizeOf52 rfl) ?_
    refine ah_t 3 (fun w9 hs => (hs.front (.z))) rfl rfl (by kernel_rfl) (q_fieldAddr (o11 + p.1 * 2 + 0) rfl Tryz.runUnderlying52 rfl Tryz.sizeOf3 (by decide) rfl) (ah_t 4 (fun w9 hs => (hs.front (.z))) rfl rfl (by kernel_rfl) (q_loadX rfl Tryz.isAgg3 (fun w9 hs => (hs.below.cell (p := ⟨_, _, none⟩) hlt1).trans ((hget1 p.1 _ hx1) 0 _ rfl))) (ah_t 5 (fun w9 hs => (hs.front (.z))) rfl rfl (by kernel_rfl) (q_move rfl) (ah_t 6 (fun w9 hs => (hs.front (.z))) rfl rfl (by kernel_rfl) (q_move rfl) ?_)))
    refine ah_t 7 (fun w9 hs => (hs.front (.z))) rfl rfl (by kernel_rfl) (q_indexAddrA (i := p.1) (o21 + p.1 * 2 + 0) hA2 rfl rfl rfl (by omega) Tryz.runUnderlying45 Tryz.sizeOf52 rfl) ?_
    refine ah_t 8 (fun w9 hs => (hs.front (.z))) rfl rfl (by kernel_rfl) (q_fieldAddr (o21 + p.1 * 2 + 0) rfl Tryz.runUnderlying52 rfl Tryz.sizeOf3 (by decide) rfl) (ah_t 9 (fun w9 hs => (hs.front (.z))) rfl rfl (by kernel_rfl) (q_loadX rfl Tryz.isAgg3 (fun w9 hs => (hs.below.cell (p := ⟨_, _, none⟩) hlt2).trans ((hget2 p.1 _ hx2) 0 _ rfl))) (ah_t 11 (fun w9 hs => (hs.front (.z))) rfl rfl (by kernel_rfl) (q_move rfl) (ah_t 12 (fun w9 hs => (hs.front (.z))) rfl rfl (by kernel_rfl) (q_move rfl) ?_)))
    refine ah_t 13 (fun w9 hs => (hs.front (.z))) rfl rfl (by kernel_rfl) (q_indexAddrA (i := p.1) (o11 + p.1 * 2 + 0) hA1 rfl rfl rfl (by omega) Tryz.runUnderlying45 Tryz.sizeOf52 rfl) ?_
    refine ah_t 14 (fun w9 hs => (hs.front (.z))) rfl rfl (by kernel_rfl) (q_fieldAddr (o11 + p.1 * 2 + 1) rfl Tryz.runUnderlying52 rfl Tryz.sizeOf3 (by decide) rfl) (ah_t 15 (fun w9 hs => (hs.front (.z))) rfl rfl (by kernel_rfl) (q_loadX rfl Tryz.isAgg3 (fun w9 hs => (hs.below.cell (p := ⟨_, _, none⟩) hlt1).trans ((hget1 p.1 _ hx1) 1 _ rfl))) (ah_t 16 (fun w9 hs => (hs.front (.z))) rfl rfl (by kernel_rfl) (q_move rfl) (ah_t 17 (fun w9 hs => (hs.front (.z))) rfl rfl (by kernel_rfl) (q_move rfl) ?_)))
    refine ah_t 18 (fun w9 hs => (hs.front (.z))) rfl rfl (by kernel_rfl) (q_indexAddrA (i := p.1) (o21 + p.1 * 2 + 0) hA2 rfl rfl rfl (by omega) Tryz.runUnderlying45 Tryz.sizeOf52 rfl) ?_
    refine ah_t 19 (fun w9 hs => (hs.front (.z))) rfl rfl (by kernel_rfl) (q_fieldAddr (o21 + p.1 * 2 + 1) rfl Tryz.runUnderlying52 rfl Tryz.sizeOf3 (by decide) rfl) (ah_t 20 (fun w9 hs => (hs.front (.z))) rfl rfl (by kernel_rfl) (q_loadX rfl Tryz.isAgg3 (fun w9 hs => (hs.below.cell (p := ⟨_, _, none⟩) hlt2).trans ((hget2 p.1 _ hx2) 1 _ rfl))) ?_)
    refine ah_two 10 23 rfl rfl  (by kernel_rfl) (fun hok1 hcl1 => ?_) (fun hok1 hcl1 => ?_)
    · refine al_call Tryz.call81 (.cons rfl (.cons rfl .nil)) rfl rfl (fun w1 hs1 => ?_)
      refine (rmost_any (spA xs p.1).lo (spA ys p.1).lo _).mono ?_
      rintro e u1 ⟨rfl, hb_1⟩
      refine ⟨_, rfl, hb_1, ?_⟩
      clear hs1
      refine al_end (ah_back hok1 hcl1 (fun w9 hs => ((hs.fewer 1 rfl).front (.z))) ?_)
      refine ah_two 21 23 rfl rfl  (by kernel_rfl) (fun hok2 hcl2 => ?_) (fun hok2 hcl2 => ?_)
      · refine al_call Tryz.call97 (.cons rfl (.cons rfl .nil)) rfl rfl (fun w2 hs2 => ?_)
        refine (rleast_any (spA xs p.1).hi (spA ys p.1).hi _).mono ?_
        rintro e u2 ⟨rfl, hb_2⟩
        refine ⟨_, rfl, hb_2, ?_⟩
        clear hs2
        refine al_end (ah_back hok2 hcl2 (fun w9 hs => ((hs.fewer 2 rfl).front (.z))) ?_)
        refine ah_t 22 (fun w9 hs => ((hs.fewer 2 rfl).front (.z))) rfl rfl (by kernel_rfl) (q_build (.cons rfl (.cons rfl .nil)) (eqn_bl_apiSpan_0_1 _ _ rfl rfl)) (ah_one 23 rfl (by kernel_rfl) (fun hok3 hcl3 => ?_))
        refine al_new (fun b => .pointer (some ⟨b, 0, none⟩)) (r_alloc Tryz.zeroValue52 rfl) rfl rfl rfl ?_
        intro b1
        refine al_end (ah_back hok3 hcl3 (fun w9 hs => (((hs.fewer 2 rfl).tail 1 rfl).front (.z))) ?_)
        refine ah_one 24 rfl (by kernel_rfl) (fun hok4 hcl4 => ?_)
        refine al_storeAll (i := 0) rfl rfl rfl rfl Tryz.sizeOf52 rfl rfl .k0 rfl (al_end (ah_last (by kernel_rfl) ?_))
        refine aq_then (ac_seq (ac_region ?_))
        refine al_p (q_move rfl) (al_p (q_move rfl) ?_)
        refine aq_split 40 rfl (fun hb1 => ?_) (fun hb1 => ?_)
        · have hpt : mtP xs ys p.1 := by simpa using hb1
          have hnx : decide (mtP xs ys (p.1 + 1)) = decide ((max (spA xs p.1).lo (spA ys p.1).lo) ≤ (min (spA xs p.1).hi (spA ys p.1).hi)) := by rw [decide_eq_decide, mtP_succ]; exact ⟨fun h => h.2, fun h => ⟨hpt, h⟩⟩
          refine al_p (q_fieldAddr 0 rfl Tryz.runUnderlying52 rfl Tryz.sizeOf3 (by decide) rfl) (al_p (q_load (i := 0) rfl rfl rfl Tryz.isAgg3) ?_)
          refine al_p (q_fieldAddr 1 rfl Tryz.runUnderlying52 rfl Tryz.sizeOf3 (by decide) rfl) (al_p (q_load (i := 0) rfl rfl rfl Tryz.isAgg3) (al_p (q_leq rfl rfl) (al_p (q_pickT rfl rfl) (al_p (q_assign rfl) ?_))))
          refine al_end (aq_then ?_)
          refine ac_region (al_p (q_move rfl) (al_p (q_loadAll (i := 0) rfl rfl Tryz.isAgg52 Tryz.sizeOf52 rfl) (al_new (fun b => .slice (some ⟨b, 0, none⟩) 1 1) (r_buildSlice (.cons rfl .nil) (eqn_bs_apiSpan_1_0_ _ _)) rfl rfl rfl ?_)))
          intro b2
          refine al_grow (z := 2) (bytes := 16) (zv := (.agg #[.int .i64 0, .int .i64 0])) (o := p.2) (cs := (mtC xs ys p.1)) (vs := [.int .i64 (max (spA xs p.1).lo (spA ys p.1).lo), .int .i64 (min (spA xs p.1).hi (spA ys p.1).hi)]) rfl rfl (.s (.s (.z))) hgp (Sor.box (j := 0) rfl rfl rfl) Tryz.underlying45 (by kernel_rfl) rfl (by omega) (by decide) rfl rfl (fun o_1 g_1 => ?_)
          refine ⟨_, (.s (.s (.z))), ?_⟩
          refine al_p (q_assign rfl) (al_end (aq_inN (aq_then (ac_region ?_))))
          refine al_p (q_move rfl) ?_
          refine al_p (q_add rfl rfl (by omega)) (al_p (q_assign rfl) (al_end (aq_then ?_)))
          skip
          refine aq_round ((p.1 + 1, o_1)) (by simp only; omega) ⟨by simp only; omega, by simp only; rw [mtC_succ]; exact g_1⟩ ⟨rfl, rfl, rfl, rfl, rfl, (by simp only; rw [hnx]; rfl), rfl, trivial⟩ (fun w9 hs => (by dsimp only; rw [mtC_succ]; exact ((hs.fewer 2 rfl).tail 2 rfl)))
        · have hpt : ¬ mtP xs ys p.1 := by simpa using hb1
          have hnx : decide (mtP xs ys (p.1 + 1)) = false := decide_eq_false fun h => hpt (mtP_succ.1 h).1
          refine al_skip rfl rfl rfl (al_skip rfl rfl rfl (al_skip rfl rfl rfl (al_skip rfl rfl rfl (al_skip rfl rfl rfl ?_))))
          refine al_p (q_pickF rfl rfl) (al_p (q_assign rfl) (al_end (aq_then ?_)))
          refine ac_region (al_p (q_move rfl) (al_p (q_loadAll (i := 0) rfl rfl Tryz.isAgg52 Tryz.sizeOf52 rfl) (al_new (fun b => .slice (some ⟨b, 0, none⟩) 1 1) (r_buildSlice (.cons rfl .nil) (eqn_bs_apiSpan_1_0_ _ _)) rfl rfl rfl ?_)))
          intro b3
          refine al_grow (z := 2) (bytes := 16) (zv := (.agg #[.int .i64 0, .int .i64 0])) (o := p.2) (cs := (mtC xs ys p.1)) (vs := [.int .i64 (max (spA xs p.1).lo (spA ys p.1).lo), .int .i64 (min (spA xs p.1).hi (spA ys p.1).hi)]) rfl rfl (.s (.s (.z))) hgp (Sor.box (j := 0) rfl rfl rfl) Tryz.underlying45 (by kernel_rfl) rfl (by omega) (by decide) rfl rfl (fun o_2 g_2 => ?_)
          refine ⟨_, (.s (.s (.z))), ?_⟩
          refine al_p (q_assign rfl) (al_end (aq_inN (aq_then (ac_region ?_))))
          refine al_p (q_move rfl) ?_
          refine al_p (q_add rfl rfl (by omega)) (al_p (q_assign rfl) (al_end (aq_then ?_)))
          skip
          refine aq_round ((p.1 + 1, o_2)) (by simp only; omega) ⟨by simp only; omega, by simp only; rw [mtC_succ]; exact g_2⟩ ⟨rfl, rfl, rfl, rfl, rfl, (by simp only; rw [hnx]; rfl), rfl, trivial⟩ (fun w9 hs => (by dsimp only; rw [mtC_succ]; exact ((hs.fewer 2 rfl).tail 2 rfl)))
      · refine al_new (fun b => .pointer (some ⟨b, 0, none⟩)) (r_alloc Tryz.zeroValue52 rfl) rfl rfl rfl ?_
        intro b4
        refine al_end (ah_back hok2 hcl2 (fun w9 hs => (((hs.fewer 1 rfl).tail 1 rfl).front (.z))) ?_)
        refine ah_one 21 rfl (by kernel_rfl) (fun hok5 hcl5 => ?_)
        refine al_call Tryz.call97 (.cons rfl (.cons rfl .nil)) rfl rfl (fun w3 hs3 => ?_)
        refine (rleast_any (spA xs p.1).hi (spA ys p.1).hi _).mono ?_
        rintro e u3 ⟨rfl, hb_3⟩
        refine ⟨_, rfl, hb_3, ?_⟩
        clear hs3
        refine al_end (ah_back hok5 hcl5 (fun w9 hs => (((hs.fewer 2 rfl).tail 1 rfl).front (.z))) ?_)
        refine ah_t 22 (fun w9 hs => (((hs.fewer 2 rfl).tail 1 rfl).front (.z))) rfl rfl (by kernel_rfl) (q_build (.cons rfl (.cons rfl .nil)) (eqn_bl_apiSpan_0_1 _ _ rfl rfl)) (ah_one 24 rfl (by kernel_rfl) (fun hok6 hcl6 => ?_))
        refine al_storeAll (i := 0) rfl rfl rfl rfl Tryz.sizeOf52 rfl rfl .k0 rfl (al_end (ah_last (by kernel_rfl) ?_))
        refine aq_then (ac_seq (ac_region ?_))
        refine al_p (q_move rfl) (al_p (q_move rfl) ?_)
        refine aq_split 40 rfl (fun hb2 => ?_) (fun hb2 => ?_)
        · have hpt : mtP xs ys p.1 := by simpa using hb2
          have hnx : decide (mtP xs ys (p.1 + 1)) = decide ((max (spA xs p.1).lo (spA ys p.1).lo) ≤ (min (spA xs p.1).hi (spA ys p.1).hi)) := by rw [decide_eq_decide, mtP_succ]; exact ⟨fun h => h.2, fun h => ⟨hpt, h⟩⟩
          refine al_p (q_fieldAddr 0 rfl Tryz.runUnderlying52 rfl Tryz.sizeOf3 (by decide) rfl) (al_p (q_load (i := 0) rfl rfl rfl Tryz.isAgg3) ?_)
          refine al_p (q_fieldAddr 1 rfl Tryz.runUnderlying52 rfl Tryz.sizeOf3 (by decide) rfl) (al_p (q_load (i := 0) rfl rfl rfl Tryz.isAgg3) (al_p (q_leq rfl rfl) (al_p (q_pickT rfl rfl) (al_p (q_assign rfl) ?_))))
          refine al_end (aq_then ?_)
          refine aq_keepL [0, 1, 4, 5, 6, 7, 8, 9, 10, 11, 12, 13, 16, 17, 18, 19, 20, 21, 22, 23, 24, 25, 26, 27, 28, 29, 30, 31, 32, 33, 34, 35, 36, 37, 38, 39, 40, 41, 42, 43, 44, 45, 46] (.cons rfl (.cons rfl (.cons rfl (.cons rfl (.cons rfl (.cons rfl (.cons rfl (.cons rfl (.cons rfl (.cons rfl (.cons rfl (.cons rfl (.cons rfl (.cons rfl (.cons rfl (.cons rfl (.cons rfl (.cons rfl (.cons rfl (.cons rfl (.cons rfl (.cons rfl (.cons rfl (.cons rfl (.cons rfl (.cons rfl (.cons rfl (.cons rfl (.cons rfl (.cons rfl (.cons rfl (.cons rfl (.cons rfl (.cons rfl (.cons rfl (.cons rfl (.cons rfl (.cons rfl (.cons rfl (.cons rfl (.cons rfl (.cons rfl (.cons rfl .nil))))))))))))))))))))))))))))))))))))))))))) ?_
          refine ac_region (al_p (q_move rfl) (al_p (q_loadAll (i := 0) rfl rfl Tryz.isAgg52 Tryz.sizeOf52 rfl) (al_new (fun b => .slice (some ⟨b, 0, none⟩) 1 1) (r_buildSlice (.cons rfl .nil) (eqn_bs_apiSpan_1_0_ _ _)) rfl rfl rfl ?_)))
          intro b5
          refine al_grow (z := 2) (bytes := 16) (zv := (.agg #[.int .i64 0, .int .i64 0])) (o := p.2) (cs := (mtC xs ys p.1)) (vs := [.int .i64 (max (spA xs p.1).lo (spA ys p.1).lo), .int .i64 (min (spA xs p.1).hi (spA ys p.1).hi)]) rfl rfl (.s (.s (.z))) hgp (Sor.box (j := 0) rfl rfl rfl) Tryz.underlying45 (by kernel_rfl) rfl (by omega) (by decide) rfl rfl (fun o_3 g_3 => ?_)
          refine ⟨_, (.s (.s (.z))), ?_⟩
          refine al_p (q_assign rfl) (al_end (aq_inN (aq_then (ac_region ?_))))
          refine al_p (q_move rfl) ?_
          refine al_p (q_add rfl rfl (by omega)) (al_p (q_assign rfl) (al_end (aq_then ?_)))
          skip
          refine aq_round ((p.1 + 1, o_3)) (by simp only; omega) ⟨by simp only; omega, by simp only; rw [mtC_succ]; exact g_3⟩ ⟨rfl, rfl, rfl, rfl, rfl, (by simp only; rw [hnx]; rfl), rfl, trivial⟩ (fun w9 hs => (by dsimp only; rw [mtC_succ]; exact ((hs.fewer 2 rfl).tail 2 rfl)))
        · have hpt : ¬ mtP xs ys p.1 := by simpa using hb2
          have hnx : decide (mtP xs ys (p.1 + 1)) = false := decide_eq_false fun h => hpt (mtP_succ.1 h).1
          refine al_skip rfl rfl rfl (al_skip rfl rfl rfl (al_skip rfl rfl rfl (al_skip rfl rfl rfl (al_skip rfl rfl rfl ?_))))
          refine al_p (q_pickF rfl rfl) (al_p (q_assign rfl) (al_end (aq_then ?_)))
          refine ac_region (al_p (q_move rfl) (al_p (q_loadAll (i := 0) rfl rfl Tryz.isAgg52 Tryz.sizeOf52 rfl) (al_new (fun b => .slice (some ⟨b, 0, none⟩) 1 1) (r_buildSlice (.cons rfl .nil) (eqn_bs_apiSpan_1_0_ _ _)) rfl rfl rfl ?_)))
          intro b6
          refine al_grow (z := 2) (bytes := 16) (zv := (.agg #[.int .i64 0, .int .i64 0])) (o := p.2) (cs := (mtC xs ys p.1)) (vs := [.int .i64 (max (spA xs p.1).lo (spA ys p.1).lo), .int .i64 (min (spA xs p.1).hi (spA ys p.1).hi)]) rfl rfl (.s (.s (.z))) hgp (Sor.box (j := 0) rfl rfl rfl) Tryz.underlying45 (by kernel_rfl) rfl (by omega) (by decide) rfl rfl (fun o_4 g_4 => ?_)
          refine ⟨_, (.s (.s (.z))), ?_⟩
          refine al_p (q_assign rfl) (al_end (aq_inN (aq_then (ac_region ?_))))
          refine al_p (q_move rfl) ?_
          refine al_p (q_add rfl rfl (by omega)) (al_p (q_assign rfl) (al_end (aq_then ?_)))
          skip
          refine aq_round ((p.1 + 1, o_4)) (by simp only; omega) ⟨by simp only; omega, by simp only; rw [mtC_succ]; exact g_4⟩ ⟨rfl, rfl, rfl, rfl, rfl, (by simp only; rw [hnx]; rfl), rfl, trivial⟩ (fun w9 hs => (by dsimp only; rw [mtC_succ]; exact ((hs.fewer 2 rfl).tail 2 rfl)))
    · refine al_new (fun b => .pointer (some ⟨b, 0, none⟩)) (r_alloc Tryz.zeroValue52 rfl) rfl rfl rfl ?_
      intro b7
      refine al_end (ah_back hok1 hcl1 (fun w9 hs => ((hs.tail 1 rfl).front (.z))) ?_)
      refine ah_one 10 rfl (by kernel_rfl) (fun hok7 hcl7 => ?_)
      refine al_call Tryz.call81 (.cons rfl (.cons rfl .nil)) rfl rfl (fun w4 hs4 => ?_)
      refine (rmost_any (spA xs p.1).lo (spA ys p.1).lo _).mono ?_
      rintro e u4 ⟨rfl, hb_4⟩
      refine ⟨_, rfl, hb_4, ?_⟩
      clear hs4
      refine al_end (ah_back hok7 hcl7 (fun w9 hs => (((hs.fewer 1 rfl).tail 1 rfl).front (.z))) ?_)
      refine ah_one 21 rfl (by kernel_rfl) (fun hok8 hcl8 => ?_)
      refine al_call Tryz.call97 (.cons rfl (.cons rfl .nil)) rfl rfl (fun w5 hs5 => ?_)
      refine (rleast_any (spA xs p.1).hi (spA ys p.1).hi _).mono ?_
      rintro e u5 ⟨rfl, hb_5⟩
      refine ⟨_, rfl, hb_5, ?_⟩
      clear hs5
      refine al_end (ah_back hok8 hcl8 (fun w9 hs => (((hs.fewer 2 rfl).tail 1 rfl).front (.z))) ?_)
      refine ah_t 22 (fun w9 hs => (((hs.fewer 2 rfl).tail 1 rfl).front (.z))) rfl rfl (by kernel_rfl) (q_build (.cons rfl (.cons rfl .nil)) (eqn_bl_apiSpan_0_1 _ _ rfl rfl)) (ah_one 24 rfl (by kernel_rfl) (fun hok9 hcl9 => ?_))
      refine al_storeAll (i := 0) rfl rfl rfl rfl Tryz.sizeOf52 rfl rfl .k0 rfl (al_end (ah_last (by kernel_rfl) ?_))
      refine aq_then (ac_seq (ac_region ?_))
      refine al_p (q_move rfl) (al_p (q_move rfl) ?_)
      refine aq_split 40 rfl (fun hb3 => ?_) (fun hb3 => ?_)
      · have hpt : mtP xs ys p.1 := by simpa using hb3
        have hnx : decide (mtP xs ys (p.1 + 1)) = decide ((max (spA xs p.1).lo (spA ys p.1).lo) ≤ (min (spA xs p.1).hi (spA ys p.1).hi)) := by rw [decide_eq_decide, mtP_succ]; exact ⟨fun h => h.2, fun h => ⟨hpt, h⟩⟩
        refine al_p (q_fieldAddr 0 rfl Tryz.runUnderlying52 rfl Tryz.sizeOf3 (by decide) rfl) (al_p (q_load (i := 0) rfl rfl rfl Tryz.isAgg3) ?_)
        refine al_p (q_fieldAddr 1 rfl Tryz.runUnderlying52 rfl Tryz.sizeOf3 (by decide) rfl) (al_p (q_load (i := 0) rfl rfl rfl Tryz.isAgg3) (al_p (q_leq rfl rfl) (al_p (q_pickT rfl rfl) (al_p (q_assign rfl) ?_))))
        refine al_end (aq_then ?_)
        refine ac_region (al_p (q_move rfl) (al_p (q_loadAll (i := 0) rfl rfl Tryz.isAgg52 Tryz.sizeOf52 rfl) (al_new (fun b => .slice (some ⟨b, 0, none⟩) 1 1) (r_buildSlice (.cons rfl .nil) (eqn_bs_apiSpan_1_0_ _ _)) rfl rfl rfl ?_)))
        intro b8
        refine al_grow (z := 2) (bytes := 16) (zv := (.agg #[.int .i64 0, .int .i64 0])) (o := p.2) (cs := (mtC xs ys p.1)) (vs := [.int .i64 (max (spA xs p.1).lo (spA ys p.1).lo), .int .i64 (min (spA xs p.1).hi (spA ys p.1).hi)]) rfl rfl (.s (.s (.z))) hgp (Sor.box (j := 0) rfl rfl rfl) Tryz.underlying45 (by kernel_rfl) rfl (by omega) (by decide) rfl rfl (fun o_5 g_5 => ?_)
        refine ⟨_, (.s (.s (.z))), ?_⟩
        refine al_p (q_assign rfl) (al_end (aq_inN (aq_then (ac_region ?_))))
        refine al_p (q_move rfl) ?_
        refine al_p (q_add rfl rfl (by omega)) (al_p (q_assign rfl) (al_end (aq_then ?_)))
        skip
        refine aq_round ((p.1 + 1, o_5)) (by simp only; omega) ⟨by simp only; omega, by simp only; rw [mtC_succ]; exact g_5⟩ ⟨rfl, rfl, rfl, rfl, rfl, (by simp only; rw [hnx]; rfl), rfl, trivial⟩ (fun w9 hs => (by dsimp only; rw [mtC_succ]; exact ((hs.fewer 2 rfl).tail 2 rfl)))
      · have hpt : ¬ mtP xs ys p.1 := by simpa using hb3
        have hnx : decide (mtP xs ys (p.1 + 1)) = false := decide_eq_false fun h => hpt (mtP_succ.1 h).1
        refine al_skip rfl rfl rfl (al_skip rfl rfl rfl (al_skip rfl rfl rfl (al_skip rfl rfl rfl (al_skip rfl rfl rfl ?_))))
        refine al_p (q_pickF rfl rfl) (al_p (q_assign rfl) (al_end (aq_then ?_)))
        refine ac_region (al_p (q_move rfl) (al_p (q_loadAll (i := 0) rfl rfl Tryz.isAgg52 Tryz.sizeOf52 rfl) (al_new (fun b => .slice (some ⟨b, 0, none⟩) 1 1) (r_buildSlice (.cons rfl .nil) (eqn_bs_apiSpan_1_0_ _ _)) rfl rfl rfl ?_)))
        intro b9
        refine al_grow (z := 2) (bytes := 16) (zv := (.agg #[.int .i64 0, .int .i64 0])) (o := p.2) (cs := (mtC xs ys p.1)) (vs := [.int .i64 (max (spA xs p.1).lo (spA ys p.1).lo), .int .i64 (min (spA xs p.1).hi (spA ys p.1).hi)]) rfl rfl (.s (.s (.z))) hgp (Sor.box (j := 0) rfl rfl rfl) Tryz.underlying45 (by kernel_rfl) rfl (by omega) (by decide) rfl rfl (fun o_6 g_6 => ?_)
        refine ⟨_, (.s (.s (.z))), ?_⟩
        refine al_p (q_assign rfl) (al_end (aq_inN (aq_then (ac_region ?_))))
        refine al_p (q_move rfl) ?_
        refine al_p (q_add rfl rfl (by omega)) (al_p (q_assign rfl) (al_end (aq_then ?_)))
        skip
        refine aq_round ((p.1 + 1, o_6)) (by simp only; omega) ⟨by simp only; omega, by simp only; rw [mtC_succ]; exact g_6⟩ ⟨rfl, rfl, rfl, rfl, rfl, (by simp only; rw [hnx]; rfl), rfl, trivial⟩ (fun w9 hs => (by dsimp only; rw [mtC_succ]; exact ((hs.fewer 2 rfl).tail 2 rfl)))
  · have hke : p.1 = nx := by have := of_decide_eq_false h1; omega
    refine ac_exit (aq_thenE (aq_thenE (aq_hit (aq_then ?_))))
    refine ac_seq (ac_region ?_)
    refine al_p (q_move rfl) (al_p (q_move rfl) (al_p (q_assign rfl) (al_p (q_assign rfl) (al_end (aq_then ?_)))))
    refine ac_ret (ret2 Tryz.results55 rfl rfl (fun w9 hs => ?_))
    exact ⟨gA p.2, gC p.2, by rw [hke], by have h9 := hs.grown (enc := SpanD.cells) (o := p.2) (cs := mtC xs ys p.1) (zs := lst p.1 (mtA xs ys)) (fun _ => rfl) (fun y hy => by simp [hy]) hgp rfl (lst_length _ _); rw [hke] at h9; exact h9, hs.below⟩
theorem rboxes2 (R : MachR) (M : MachD) (X Y : Option Addr) (nx cx ny cy : Nat) (xs ys : List SpanD) (t : Int) (zb : Nat) (w : World) (hM : IsM w R M) (hS : IsT 2 SpanD.cells w X nx xs) (hT : IsT 2 SpanD.cells w Y ny ys) (hlx : nx ≤ 1000000000000000) (hly : ny ≤ 1000000000000000) (hB : BoxAt w zb (.cells [.slice X nx cx, .slice Y ny cy])) : Calls Tryz.prog 54 #[.agg (mCs R M).toArray, .int .i64 t, .slice (some ⟨zb, 0, none⟩) 2 2] w (Ret (.int .i64 (chkM M t xs ys)) w) := by
  have h := rboxes_any R M (some ⟨zb, 0, none⟩) 2 2 [(X, nx, cx, xs), (Y, ny, cy, ys)] t w hM (isT_box0 (n := 1) (enc := bxC) (fun _ => rfl) hB rfl rfl) (fun z hz => by
    rcases List.mem_cons.1 hz with rfl | hz
    · exact ⟨hS, hlx⟩
    · rw [List.mem_singleton.1 hz]; exact ⟨hT, hly⟩) (by decide)
  rwa [bx2] at h
theorem rboxes1 (R : MachR) (M : MachD) (X : Option Addr) (nx cx : Nat) (xs : List SpanD) (t : Int) (zb : Nat) (w : World) (hM : IsM w R M) (hS : IsT 2 SpanD.cells w X nx xs) (hlx : nx ≤ 1000000000000000) (hB : BoxAt w zb (.cells [.slice X nx cx])) : Calls Tryz.prog 54 #[.agg (mCs R M).toArray, .int .i64 t, .slice (some ⟨zb, 0, none⟩) 1 1] w (Ret (.int .i64 (chkE (boxB M t xs) (wthn t 1 1000000))) w) := by
  have h := rboxes_any R M (some ⟨zb, 0, none⟩) 1 1 [(X, nx, cx, xs)] t w hM (isT_box0 (n := 1) (enc := bxC) (fun _ => rfl) hB rfl rfl) (fun z hz => by
    rw [List.mem_singleton.1 hz]; exact ⟨hS, hlx⟩) (by decide)
  rwa [bx1] at h
theorem chk_and1 {v r s : Bool} (h : chkE v r ≠ 0) : chkE v (r && s) = chkE v r := by
  unfold chkE at *; cases v <;> cases r <;> simp_all
theorem chk_and2 {v r s : Bool} (h : chkE v r = 0) (hs : s = false) : chkE v (r && s) = 7 := by
  obtain ⟨rfl, rfl⟩ := chk_iff.1 h; subst hs; rfl
theorem eqn_bs_LLapiSpan_2_0_1 (a0 a1 : Value) (ha0 : a0.oneCell' = true) (ha1 : a1.oneCell' = true) : ∀ w, (Instr.buildSlice 87 2 #[(0, a0), (1, a1)]).run Tryz.prog w = .ok (.slice (some ⟨w.heap.size, 0, none⟩) 2 2) (w.alloc (.cells [a0, a1].toArray 45)) := by
  have ea0 : a0.cells = #[a0] := cells_one ha0
  have ea1 : a1.cells = #[a1] := cells_one ha1
  intro w; (simp [Instr.buildSlice, Instr.fill, cells_agg, newRow, Tryz.runUnderlying87, Tryz.zeroValue45, Tryz.sizeOf45, ea0, ea1] <;> (rw [(by kernel_rfl : Array.range 2 = #[0, 1])]; simp [Value.cells]))
set_option maxRecDepth 100000 in
theorem rMeet_any (R : MachR) (M : MachD) (X Y : Option Addr) (nx cx ny cy : Nat) (xs ys : List SpanD) (t : Int) (w : World) (hM : IsM w R M) (hS : IsT 2 SpanD.cells w X nx xs) (hT : IsT 2 SpanD.cells w Y ny ys) (hlx : nx ≤ 1000000000000000) (hly : ny ≤ 1000000000000000) : Calls Tryz.prog 17 #[(.agg (mCs R M).toArray), (.int .i64 t), (.slice X nx cx), (.slice Y ny cy)] w (OutT 2 SpanD.cells w (mtE M t xs ys) (mtR M t xs ys)) := by
  have n1 := hS.1
  have n2 := hT.1
  refine calls_ax (vs := [(.agg (mCs R M).toArray), (.int .i64 t), (.slice X nx cx), (.slice Y ny cy)]) Tryz.func17 rfl rfl ?_
  refine ac_seq (ac_region ?_)
  refine al_new (fun b => .pointer (some ⟨b, 0, none⟩)) (r_box rfl rfl) rfl rfl rfl ?_
  intro b1
  refine al_p (q_assign rfl) (al_p (q_assign rfl) (al_end (aq_then ?_)))
  refine ac_seq (ac_seq (ac_region ?_))
  refine al_p (q_loadAll (i := 0) rfl rfl Tryz.isAgg29 Tryz.sizeOf29 rfl) (al_p (q_move rfl) (al_p (q_move rfl) (al_p (q_move rfl) (al_new (fun b => .slice (some ⟨b, 0, none⟩) 2 2) (r_buildSlice (.cons rfl (.cons rfl .nil)) (eqn_bs_LLapiSpan_2_0_1 _ _ rfl rfl)) rfl rfl rfl ?_))))
  intro b2
  refine al_call Tryz.call54 (.cons rfl (.cons rfl (.cons rfl .nil))) rfl rfl (fun w1 hs1 => ?_)
  refine (rboxes2 R M X Y nx cx ny cy xs ys t b2 _ (hM.below hs1.below) (hS.below hs1.below) (hT.below hs1.below) hlx hly (hs1.at 0 rfl)).mono ?_
  rintro e u1 ⟨rfl, hb_1⟩
  refine ⟨_, rfl, hb_1, ?_⟩
  clear hs1
  refine al_p (q_assign rfl) (al_end (aq_then ?_))
  refine ac_seq (ac_region ?_)
  refine al_p (q_move rfl) (al_p (q_neq rfl rfl) (al_end (aq_then ?_)))
  refine ac_cond rfl (fun h1 => ?_) (fun h1 => ?_)
  · have hne := bne_iff_ne.1 h1
    refine ac_seq (ac_region ?_)
    refine al_p (q_move rfl) (al_p (q_assign rfl) (al_p (q_assign rfl) (al_end (aq_then ?_))))
    refine ac_ret (aq_thenR (ret2 Tryz.results17 rfl rfl (fun w9 hs => ?_)))
    obtain ⟨e1, e2⟩ := mt_bad (M := M) (t := t) (xs := xs) (ys := ys) rfl hne
    rw [e1, e2]; exact OutT.nil hs.below
  · have hk : chkM M t xs ys = 0 := by simpa using h1
    obtain ⟨g1, g2, -, -⟩ := mt_ok hk
    have g3 := g1.len
    have g4 := g2.len
    have g5 := cellN_eq g1.check
    have hms := mt_spec hk
    rw [n1] at hms
    refine ac_skip (aq_then (ac_seq (ac_region ?_)))
    refine al_p (q_move rfl) (al_p (q_move rfl) (al_call Tryz.call55 (.cons rfl (.cons rfl .nil)) rfl rfl (fun w2 hs2 => ?_)))
    refine (rmet_any X Y nx cx ny cy xs ys _ (hS.below hs2.below) (hT.below hs2.below) (by omega) (by omega)).mono ?_
    rintro e u2 ⟨A1, c1, rfl, N1, hb_2⟩
    refine ⟨_, rfl, hb_2, ?_⟩
    clear hs2
    refine al_p (q_move rfl) (al_p (q_extract rfl rfl) (al_p (q_extract rfl rfl) (al_p (q_assign rfl) (al_p (q_assign rfl) ?_))))
    refine al_end (aq_then ?_)
    refine ac_seq (ac_seq (ac_region ?_))
    refine al_p (q_move rfl) (al_p (q_not rfl) (al_end (aq_then ?_)))
    refine ac_cond rfl (fun h2 => ?_) (fun h2 => ?_)
    · have hnp : ¬ mtP xs ys nx := by simpa using h2
      refine ac_seq (ac_region ?_)
      refine al_p (q_assign rfl) (al_p (q_assign rfl) (al_end (aq_then ?_)))
      refine ac_ret (aq_thenR (ret2 Tryz.results17 rfl rfl (fun w9 hs => ?_)))
      rw [hms.1, hms.2, if_neg hnp, if_neg hnp]; exact OutT.nil hs.below
    · have hp : mtP xs ys nx := by simpa using h2
      refine ac_skip (aq_then (ac_seq (ac_region ?_)))
      refine al_p (q_move rfl) (al_p (q_assign rfl) (al_p (q_assign rfl) (al_end (aq_then ?_))))
      refine ac_ret (ret2 Tryz.results17 rfl rfl (fun w9 hs => ?_))
      rw [hms.1, hms.2, if_pos hp, if_pos hp]; exact OutT.ok (hs.newT2 (.head _) N1) hs.below
theorem rboxes1y (R : MachR) (M : MachD) (X : Option Addr) (nx cx : Nat) (xs : List SpanD) (t : Int) (zb : Nat) (w : World) (hM : IsM w R M) (hS : IsT 2 SpanD.cells w X nx xs) (hlx : nx ≤ 1000000000000000) (hB : BoxAt w zb (.cells [.slice X nx cx])) (hv : boxB M t xs = true) (t0 : 1 ≤ t) (t1 : t ≤ 1000000) : Calls Tryz.prog 54 #[.agg (mCs R M).toArray, .int .i64 t, .slice (some ⟨zb, 0, none⟩) 1 1] w (Ret (.int .i64 0) w) := by
  have h := rboxes1 R M X nx cx xs t zb w hM hS hlx hB
  rwa [hv, wthn_iff.2 ⟨t0, t1⟩] at h
theorem eqn_bs_LLapiSpan_1_0_ (a0 : Value) (ha0 : a0.oneCell' = true) : ∀ w, (Instr.buildSlice 87 1 #[(0, a0)]).run Tryz.prog w = .ok (.slice (some ⟨w.heap.size, 0, none⟩) 1 1) (w.alloc (.cells [a0].toArray 45)) := by
  have ea0 : a0.cells = #[a0] := cells_one ha0
  intro w; (simp [Instr.buildSlice, Instr.fill, cells_agg, newRow, Tryz.runUnderlying87, Tryz.zeroValue45, Tryz.sizeOf45, ea0] <;> (rw [(by kernel_rfl : Array.range 1 = #[0])]; simp [Value.cells]))
theorem eqn_bs_apiSpan_0_ : ∀ w, (Instr.buildSlice 45 0 #[]).run Tryz.prog w = .ok (.slice (some ⟨w.heap.size, 0, none⟩) 0 0) (w.alloc (.cells [].toArray 52)) := by
  intro w; (simp [Instr.buildSlice, Instr.fill, cells_agg, newRow, Tryz.runUnderlying45, Tryz.zeroValue52, Tryz.sizeOf52] <;> (rw [(by kernel_rfl : Array.range 0 = #[])]; simp [Value.cells]))
set_option maxRecDepth 100000 in
theorem rSplit_ok (R : MachR) (M : MachD) (X : Option Addr) (nx cx : Nat) (xs : List SpanD) (t : Int) (i : Nat) (w : World) (hM : IsM w R M) (hS : IsT 2 SpanD.cells w X nx xs) (hlx : nx ≤ 1000000000000000) (hi : i < nx) (hv : boxB M t xs = true) (t0 : 1 ≤ t) (t1 : t ≤ 1000000) : Calls Tryz.prog 20 #[(.agg (mCs R M).toArray), (.int .i64 t), (.slice X nx cx), (.int .i64 (i : Int))] w (OutD w 0 (loX xs i) (upX xs i)) := by
  have n1 := hS.1
  have hbx := boxB_iff.1 hv
  have n5 := cellN_eq hbx.check
  have n3 := hbx.len
  have hba := box_at hbx (k := i) (by omega)
  obtain ⟨b11, o11, hA1, hlt1, hget1⟩ := hS.2 (by omega)
  have hx1 := spA_get (x := xs) (k := i) (by omega)
  refine calls_ax (vs := [(.agg (mCs R M).toArray), (.int .i64 t), (.slice X nx cx), (.int .i64 (i : Int))]) Tryz.func20 rfl rfl ?_
  refine ac_seq (ac_region ?_)
  refine al_new (fun b => .pointer (some ⟨b, 0, none⟩)) (r_box rfl rfl) rfl rfl rfl ?_
  intro b1
  refine al_p (q_assign rfl) (al_p (q_assign rfl) (al_p (q_assign rfl) (al_end (aq_then ?_))))
  refine ac_seq (ac_seq (ac_region ?_))
  refine al_p (q_loadAll (i := 0) rfl rfl Tryz.isAgg29 Tryz.sizeOf29 rfl) (al_p (q_move rfl) (al_p (q_move rfl) (al_new (fun b => .slice (some ⟨b, 0, none⟩) 1 1) (r_buildSlice (.cons rfl .nil) (eqn_bs_LLapiSpan_1_0_ _ rfl)) rfl rfl rfl ?_)))
  intro b2
  refine al_call Tryz.call54 (.cons rfl (.cons rfl (.cons rfl .nil))) rfl rfl (fun w1 hs1 => ?_)
  refine (rboxes1y R M _ nx cx xs t b2 _ (hM.below hs1.below) (hS.below hs1.below) hlx (hs1.at 0 rfl) hv t0 t1).mono ?_
  rintro e u1 ⟨rfl, hb_1⟩
  refine ⟨_, rfl, hb_1, ?_⟩
  clear hs1
  refine al_p (q_assign rfl) (al_end (aq_then ?_))
  refine ac_seq (ac_region ?_)
  refine al_p (q_move rfl) ?_
  refine al_p (q_same (v' := .bool false) (q_neq rfl rfl) (by simp)) (al_end (aq_then ?_))
  refine ac_condF rfl (ac_skip (aq_then (ac_seq (ac_seq (ac_region ?_)))))
  refine al_p (q_move rfl) (al_p (q_move rfl) (al_p (q_lenS rfl Tryz.runUnderlying45) ?_))
  refine al_p (q_sub rfl rfl (by omega)) (al_call Tryz.call48 (.cons rfl (.cons rfl (.cons rfl .nil))) rfl rfl (fun w2 hs2 => ?_))
  refine (rwth_yes (i : Int) 0 ((nx : Int) - 1) _ (by omega) (by omega)).mono ?_
  rintro e u2 ⟨rfl, hb_2⟩
  refine ⟨_, rfl, hb_2, ?_⟩
  clear hs2
  refine al_p (q_not rfl) (al_end (aq_then ?_))
  refine ac_condF rfl (ac_skip (aq_then (ac_seq (ac_region ?_))))
  refine al_new (fun b => .slice (some ⟨b, 0, none⟩) 0 0) (r_buildSlice .nil (eqn_bs_apiSpan_0_)) rfl rfl rfl ?_
  intro b3
  refine al_p (q_move rfl) ?_
  refine al_appendS (i := 0) (z := 2) (bytes := 16) (zv := (.agg #[.int .i64 0, .int .i64 0])) (xs := []) (sp := []) (vs := (xs.flatMap SpanD.cells)) rfl rfl (by simp) (by simp) (by omega) (by omega) rfl (Sor.list (enc := SpanD.cells) (zs := xs) (fun _ => rfl) (fun _ => rfl) hS.1 (fun w9 hs => hS.below hs.below)) Tryz.underlying45 (by kernel_rfl) rfl (by omega) (by decide) rfl rfl (fun b4 c_b4 sp_b4 hc_b4 hk_b4 hl_b4 => ?_)
  refine ⟨_, .k0, ?_⟩
  refine al_new (fun b => .slice (some ⟨b, 0, none⟩) 0 0) (r_buildSlice .nil (eqn_bs_apiSpan_0_)) rfl rfl rfl ?_
  intro b5
  refine al_p (q_move rfl) ?_
  refine al_appendS (i := 0) (z := 2) (bytes := 16) (zv := (.agg #[.int .i64 0, .int .i64 0])) (xs := []) (sp := []) (vs := (xs.flatMap SpanD.cells)) rfl rfl (by simp) (by simp) (by omega) (by omega) rfl (Sor.list (enc := SpanD.cells) (zs := xs) (fun _ => rfl) (fun _ => rfl) hS.1 (fun w9 hs => hS.below hs.below)) Tryz.underlying45 (by kernel_rfl) rfl (by omega) (by decide) rfl rfl (fun b6 c_b6 sp_b6 hc_b6 hk_b6 hl_b6 => ?_)
  refine ⟨_, .k0, ?_⟩
  refine al_p (q_assign rfl) (al_p (q_assign rfl) (al_end (aq_then ?_)))
  refine ac_seq (ac_region ?_)
  refine al_p (q_move rfl) (al_p (q_move rfl) ?_)
  refine al_p (q_indexAddrA (i := i) (o11 + i * 2 + 0) hA1 rfl rfl rfl (by omega) Tryz.runUnderlying45 Tryz.sizeOf52 rfl) (al_p (q_loadXs (SpanD.cells (spA xs i)) rfl Tryz.isAgg52 Tryz.sizeOf52 (fun w9 hs j9 v9 h9 => by rw [addr_add]; exact (hs.below.cell (p := ⟨_, _, none⟩) hlt1).trans ((hget1 i _ hx1) j9 v9 h9)) rfl) (al_call Tryz.call58 (.cons rfl .nil) rfl rfl (fun w3 hs3 => ?_)))
  refine (rmid5 (spA xs i).lo (spA xs i).hi _ (by omega)).mono ?_
  rintro e u3 ⟨rfl, hb_3⟩
  refine ⟨_, rfl, hb_3, ?_⟩
  clear hs3
  refine al_p (q_assign rfl) (al_end (aq_then ?_))
  refine ac_seq (ac_region ?_)
  refine al_p (q_move rfl) (al_p (q_move rfl) (al_p (q_move rfl) (al_p (q_move rfl) (al_p (q_move rfl) ?_))))
  refine al_p (q_move rfl) ?_
  refine al_p (q_indexAddr (i := i) (0 + i * 2) rfl rfl rfl (by omega) Tryz.runUnderlying45 Tryz.sizeOf52 rfl) ?_
  refine al_p (q_fieldAddr (0 + i * 2 + 1) rfl Tryz.runUnderlying52 rfl Tryz.sizeOf3 (by decide) rfl) ?_
  refine al_store1 (i := 1) rfl rfl rfl rfl Tryz.sizeOf3 (SetAt.ofSet (by simp only [List.length_append, List.nil_append, flat_spl]; omega)) .k1 rfl ?_
  refine al_p (q_indexAddr (i := i) (0 + i * 2) rfl rfl rfl (by omega) Tryz.runUnderlying45 Tryz.sizeOf52 rfl) ?_
  refine al_p (q_fieldAddr (0 + i * 2) rfl Tryz.runUnderlying52 rfl Tryz.sizeOf3 (by decide) rfl) ?_
  refine al_store1 (i := 0) rfl rfl rfl rfl Tryz.sizeOf3 (SetAt.ofSet (by simp only [List.length_append, List.nil_append, flat_spl]; omega)) .k0 rfl (al_end (aq_then ?_))
  refine ac_seq (ac_region ?_)
  refine al_p (q_move rfl) (al_p (q_move rfl) (al_p (q_assign rfl) (al_p (q_assign rfl) (al_p (q_assign rfl) ?_))))
  refine al_end (aq_then ?_)
  refine ac_ret (retR Tryz.results20 (.tmp rfl (.tmp rfl (.tmp rfl .nil))) .two (fun w9 hs => ?_))
  exact ⟨_, _, _, _, _, _, rfl, set_new (f := 1) (y := ⟨(spA xs i).lo, midX xs i⟩) (hs.at 1 rfl) (hs.new 1 rfl _ _ rfl) (by omega) (by decide) rfl (by omega) hc_b4 hk_b4, set_new (f := 0) (y := ⟨midX xs i, (spA xs i).hi⟩) (hs.at 0 rfl) (hs.new 0 rfl _ _ rfl) (by omega) (by decide) rfl (by omega) hc_b6 hk_b6, hs.below⟩
set_option maxRecDepth 100000 in
theorem rSplit_bad (R : MachR) (M : MachD) (X : Option Addr) (nx cx : Nat) (xs : List SpanD) (t i : Int) (w : World) (hM : IsM w R M) (hS : IsT 2 SpanD.cells w X nx xs) (hlx : nx ≤ 1000000000000000) (h : chkS M t i xs ≠ 0) : Calls Tryz.prog 20 #[(.agg (mCs R M).toArray), (.int .i64 t), (.slice X nx cx), (.int .i64 i)] w (Ret (.tuple #[.slice none 0 0, .slice none 0 0, .int .i64 (chkS M t i xs)]) w) := by
  have n1 := hS.1
  refine calls_ax (vs := [(.agg (mCs R M).toArray), (.int .i64 t), (.slice X nx cx), (.int .i64 i)]) Tryz.func20 rfl rfl ?_
  refine ac_seq (ac_region ?_)
  refine al_new (fun b => .pointer (some ⟨b, 0, none⟩)) (r_box rfl rfl) rfl rfl rfl ?_
  intro b1
  refine al_p (q_assign rfl) (al_p (q_assign rfl) (al_p (q_assign rfl) (al_end (aq_then ?_))))
  refine ac_seq (ac_seq (ac_region ?_))
  refine al_p (q_loadAll (i := 0) rfl rfl Tryz.isAgg29 Tryz.sizeOf29 rfl) (al_p (q_move rfl) (al_p (q_move rfl) (al_new (fun b => .slice (some ⟨b, 0, none⟩) 1 1) (r_buildSlice (.cons rfl .nil) (eqn_bs_LLapiSpan_1_0_ _ rfl)) rfl rfl rfl ?_)))
  intro b2
  refine al_call Tryz.call54 (.cons rfl (.cons rfl (.cons rfl .nil))) rfl rfl (fun w1 hs1 => ?_)
  refine (rboxes1 R M _ nx cx xs t b2 _ (hM.below hs1.below) (hS.below hs1.below) hlx (hs1.at 0 rfl)).mono ?_
  rintro e u1 ⟨rfl, hb_1⟩
  refine ⟨_, rfl, hb_1, ?_⟩
  clear hs1
  refine al_p (q_assign rfl) (al_end (aq_then ?_))
  refine ac_seq (ac_region ?_)
  refine al_p (q_move rfl) (al_p (q_neq rfl rfl) (al_end (aq_then ?_)))
  refine ac_cond rfl (fun h1 => ?_) (fun h1 => ?_)
  · have hne := bne_iff_ne.1 h1
    have hE : chkS M t i xs = chkE (boxB M t xs) (wthn t 1 1000000) := chk_and1 hne
    refine ac_seq (ac_region ?_)
    refine al_p (q_move rfl) (al_p (q_assign rfl) (al_p (q_assign rfl) (al_p (q_assign rfl) (al_end (aq_then ?_)))))
    refine ac_ret (aq_thenR (retR Tryz.results20 (.tmp rfl (.tmp rfl (.tmp rfl .nil))) .two (fun w9 hs => ?_)))
    rw [hE]; exact ⟨rfl, hs.below⟩
  · have h0 : chkE (boxB M t xs) (wthn t 1 1000000) = 0 := by simpa using h1
    refine ac_skip (aq_then (ac_seq (ac_seq (ac_region ?_))))
    refine al_p (q_move rfl) (al_p (q_move rfl) (al_p (q_lenS rfl Tryz.runUnderlying45) ?_))
    refine al_p (q_sub rfl rfl (by omega)) (al_call Tryz.call48 (.cons rfl (.cons rfl (.cons rfl .nil))) rfl rfl (fun w2 hs2 => ?_))
    refine (rw5_any i 0 ((nx : Int) - 1) _).mono ?_
    rintro e u2 ⟨rfl, hb_2⟩
    refine ⟨_, rfl, hb_2, ?_⟩
    clear hs2
    refine al_p (q_not rfl) (al_end (aq_then ?_))
    refine ac_cond rfl (fun h2 => ?_) (fun h2 => ?_)
    · have hE : chkS M t i xs = 7 := chk_and2 h0 (by rw [n1]; simpa using h2)
      refine ac_seq (ac_region ?_)
      refine al_p (q_assign rfl) (al_p (q_assign rfl) (al_p (q_assign rfl) (al_end (aq_then ?_))))
      refine ac_ret (aq_thenR (retR Tryz.results20 (.tmp rfl (.tmp rfl (.tmp rfl .nil))) .two (fun w9 hs => ?_)))
      rw [hE]; exact ⟨rfl, hs.below⟩
    · exfalso; refine h (chk_iff.2 ⟨(chk_iff.1 h0).1, ?_⟩); rw [(chk_iff.1 h0).2, n1]; simpa using h2
theorem rSplit_any (R : MachR) (M : MachD) (X : Option Addr) (nx cx : Nat) (xs : List SpanD) (t i : Int) (w : World) (hM : IsM w R M) (hS : IsT 2 SpanD.cells w X nx xs) (hlx : nx ≤ 1000000000000000) : Calls Tryz.prog 20 #[.agg (mCs R M).toArray, .int .i64 t, .slice X nx cx, .int .i64 i] w (OutD w (chkS M t i xs) (spR M t i xs (loX xs i.toNat)) (spR M t i xs (upX xs i.toNat))) := by
  by_cases h : chkS M t i xs = 0
  · obtain ⟨h1, h2⟩ := chk_iff.1 h
    rw [Bool.and_eq_true, wthn_iff, wthn_iff, hS.1] at h2
    obtain ⟨j, rfl⟩ := Int.eq_ofNat_of_zero_le h2.2.1
    have h9 := rSplit_ok R M X nx cx xs t j w hM hS hlx (by omega) h1 (by omega) (by omega)
    unfold spR
    rw [if_pos h, if_pos h, h]
    exact h9
  · unfold spR
    rw [if_neg h, if_neg h]
    exact (rSplit_bad R M X nx cx xs t i w hM hS hlx h).mono fun e w' h9 => ⟨none, 0, 0, none, 0, 0, h9.1, newT_nil, newT_nil, h9.2⟩
set_option maxRecDepth 100000 in
theorem rHolds_any (X : Option Addr) (nx cx : Nat) (xs : List SpanD) (J : Option Addr) (nj cj : Nat) (js : List Int) (w : World) (hS : IsT 2 SpanD.cells w X nx xs) (hJ : IsT 1 intCells w J nj js) (hlx : nx ≤ 1000000000000000) : Calls Tryz.prog 24 #[(.slice X nx cx), (.slice J nj cj)] w (Ret (.bool (decide (nx = nj ∧ hdP xs js nx))) w) := by
  have n1 := hS.1
  have n2 := hJ.1
  refine calls_ax (vs := [(.slice X nx cx), (.slice J nj cj)]) Tryz.func24 rfl rfl ?_
  refine ac_seq (ac_region ?_)
  refine al_p (q_assign rfl) (al_end (aq_then ?_))
  refine ac_seq (ac_seq (ac_region ?_))
  refine al_p (q_move rfl) (al_p (q_lenS rfl Tryz.runUnderlying45) (al_p (q_move rfl) (al_p (q_lenS rfl Tryz.runUnderlying30) (al_p (q_neq rfl rfl) ?_))))
  refine al_end (aq_then ?_)
  refine ac_cond rfl (fun h1 => ?_) (fun h1 => ?_)
  · have hne : ¬ (nx = nj ∧ hdP xs js nx) := fun h => by have := h.1; simp at h1; omega
    refine ac_seq (ac_region ?_)
    refine al_p (q_assign rfl) (al_end (aq_then ?_))
    refine ac_ret (aq_thenR (ret1 Tryz.results24 rfl (fun w9 hs => ?_)))
    first | (rw [decide_eq_false hne]; exact ⟨rfl, hs.below⟩) | (rw [decide_eq_true (show nx = nj ∧ hdP xs js nx from ⟨hxy, by rw [← hke]; exact hF1.2⟩)]; exact ⟨rfl, hs.below⟩)
  · have hxy : nx = nj := by simp at h1; omega
    refine ac_skip (aq_then (ac_seq (ac_seq (ac_region ?_))))
    refine al_p (q_assign rfl) (al_end (aq_then ?_))
    refine ac_block (ac_loop (β := Nat) (fun k => k ≤ nx ∧ hdP xs js k) (fun k => [(0, (.slice X nx cx)), (1, (.slice J nj cj)), (4, (.bool false)), (5, (.int .i64 (k : Int)))]) (fun _ => _) (fun k => []) (fun k => nx - k) 0 ⟨by omega, fun j h => by omega⟩ ⟨rfl, rfl, rfl, rfl, trivial⟩ (fun w9 hs => hs) (fun k hF1 => ?_))
    refine ac_seq (ac_seq (ac_region ?_))
    refine al_p (q_move rfl) (al_p (q_move rfl) (al_p (q_lenS rfl Tryz.runUnderlying45) (al_p (q_lss rfl rfl) (al_end (aq_then ?_)))))
    refine ac_cond rfl (fun h2 => ?_) (fun h2 => ?_)
    · have hkn : k < nx := by have := of_decide_eq_true h2; omega
      obtain ⟨b11, o11, hA1, hlt1, hget1⟩ := hS.2 (by omega)
      have hx1 := spA_get (x := xs) (k := k) (by omega)
      obtain ⟨b21, o21, hA2, hlt2, hget2⟩ := hJ.2 (by omega)
      have hx2 := iA_get (l := js) (k := k) (by omega)
      refine ac_skip (aq_then (ac_seq (ac_block (ac_seq ?_))))
      refine ac_draw 21 (by kernel_rfl) (by kernel_rfl) ?_
      refine ah_t 0 (fun w9 hs => hs) rfl rfl (by kernel_rfl) (q_move rfl) (ah_t 1 (fun w9 hs => hs) rfl rfl (by kernel_rfl) (q_move rfl) ?_)
      refine ah_t 2 (fun w9 hs => hs) rfl rfl (by kernel_rfl) (q_indexAddrA (i := k) (o21 + k * 1 + 0) hA2 rfl rfl rfl (by omega) Tryz.runUnderlying30 Tryz.sizeOf3 rfl) (ah_t 3 (fun w9 hs => hs) rfl rfl (by kernel_rfl) (q_loadX rfl Tryz.isAgg3 (fun w9 hs => (hs.below.cell (p := ⟨_, _, none⟩) hlt2).trans ((hget2 k _ hx2) 0 _ rfl))) (ah_t 4 (fun w9 hs => hs) rfl rfl (by kernel_rfl) (q_move rfl) (ah_t 5 (fun w9 hs => hs) rfl rfl (by kernel_rfl) (q_move rfl) ?_)))
      refine ah_t 6 (fun w9 hs => hs) rfl rfl (by kernel_rfl) (q_indexAddrA (i := k) (o11 + k * 2 + 0) hA1 rfl rfl rfl (by omega) Tryz.runUnderlying45 Tryz.sizeOf52 rfl) ?_
      refine ah_t 7 (fun w9 hs => hs) rfl rfl (by kernel_rfl) (q_fieldAddr (o11 + k * 2 + 0) rfl Tryz.runUnderlying52 rfl Tryz.sizeOf3 (by decide) rfl) (ah_t 8 (fun w9 hs => hs) rfl rfl (by kernel_rfl) (q_loadX rfl Tryz.isAgg3 (fun w9 hs => (hs.below.cell (p := ⟨_, _, none⟩) hlt1).trans ((hget1 k _ hx1) 0 _ rfl))) (ah_t 9 (fun w9 hs => hs) rfl rfl (by kernel_rfl) (q_lss rfl rfl) (ah_t 10 (fun w9 hs => hs) rfl rfl (by kernel_rfl) (q_move rfl) ?_)))
      refine ah_split 27 rfl (fun hb1 => ?_) (fun hb1 => ?_)
      · have g1 := of_decide_eq_true hb1
        have hne : ¬ (nx = nj ∧ hdP xs js nx) := fun h => by have h9 := wthn_iff.1 (h.2 k hkn); omega
        refine ah_s 11 (fun w9 hs => hs) rfl rfl (by kernel_rfl) (ah_s 12 (fun w9 hs => hs) rfl rfl (by kernel_rfl) (ah_s 13 (fun w9 hs => hs) rfl rfl (by kernel_rfl) (ah_s 14 (fun w9 hs => hs) rfl rfl (by kernel_rfl) (ah_s 15 (fun w9 hs => hs) rfl rfl (by kernel_rfl) ?_))))
        refine ah_s 16 (fun w9 hs => hs) rfl rfl (by kernel_rfl) (ah_s 17 (fun w9 hs => hs) rfl rfl (by kernel_rfl) (ah_s 18 (fun w9 hs => hs) rfl rfl (by kernel_rfl) (ah_s 19 (fun w9 hs => hs) rfl rfl (by kernel_rfl) (ah_s 20 (fun w9 hs => hs) rfl rfl (by kernel_rfl) ?_))))
        refine ah_t 21 (fun w9 hs => hs) rfl rfl (by kernel_rfl) (q_pickT rfl rfl) (ah_done (by kernel_rfl) ?_)
        refine aq_then (ac_condT rfl (ac_seq (ac_region ?_)))
        refine al_p (q_assign rfl) (al_end (aq_then ?_))
        refine ac_ret (aq_inR (aq_thenR (aq_thenR (aq_inR ?_))))
        refine aq_thenR (ret1 Tryz.results24 rfl (fun w9 hs => ?_))
        first | (rw [decide_eq_false hne]; exact ⟨rfl, hs.below⟩) | (rw [decide_eq_true (show nx = nj ∧ hdP xs js nx from ⟨hxy, by rw [← hke]; exact hF1.2⟩)]; exact ⟨rfl, hs.below⟩)
      · have g1 := of_decide_eq_false hb1
        refine ah_t 11 (fun w9 hs => hs) rfl rfl (by kernel_rfl) (q_move rfl) (ah_t 12 (fun w9 hs => hs) rfl rfl (by kernel_rfl) (q_move rfl) ?_)
        refine ah_t 13 (fun w9 hs => hs) rfl rfl (by kernel_rfl) (q_indexAddrA (i := k) (o21 + k * 1 + 0) hA2 rfl rfl rfl (by omega) Tryz.runUnderlying30 Tryz.sizeOf3 rfl) (ah_t 14 (fun w9 hs => hs) rfl rfl (by kernel_rfl) (q_loadX rfl Tryz.isAgg3 (fun w9 hs => (hs.below.cell (p := ⟨_, _, none⟩) hlt2).trans ((hget2 k _ hx2) 0 _ rfl))) (ah_t 15 (fun w9 hs => hs) rfl rfl (by kernel_rfl) (q_move rfl) (ah_t 16 (fun w9 hs => hs) rfl rfl (by kernel_rfl) (q_move rfl) ?_)))
        refine ah_t 17 (fun w9 hs => hs) rfl rfl (by kernel_rfl) (q_indexAddrA (i := k) (o11 + k * 2 + 0) hA1 rfl rfl rfl (by omega) Tryz.runUnderlying45 Tryz.sizeOf52 rfl) ?_
        refine ah_t 18 (fun w9 hs => hs) rfl rfl (by kernel_rfl) (q_fieldAddr (o11 + k * 2 + 1) rfl Tryz.runUnderlying52 rfl Tryz.sizeOf3 (by decide) rfl) (ah_t 19 (fun w9 hs => hs) rfl rfl (by kernel_rfl) (q_loadX rfl Tryz.isAgg3 (fun w9 hs => (hs.below.cell (p := ⟨_, _, none⟩) hlt1).trans ((hget1 k _ hx1) 1 _ rfl))) (ah_t 20 (fun w9 hs => hs) rfl rfl (by kernel_rfl) (q_gtr rfl rfl) (ah_t 21 (fun w9 hs => hs) rfl rfl (by kernel_rfl) (q_pickF rfl rfl) (ah_done (by kernel_rfl) ?_))))
        refine aq_then ?_
        refine ac_cond rfl (fun h3 => ?_) (fun h3 => ?_)
        · have g2 := of_decide_eq_true h3
          have hne : ¬ (nx = nj ∧ hdP xs js nx) := fun h => by have h9 := wthn_iff.1 (h.2 k hkn); omega
          refine ac_seq (ac_region ?_)
          refine al_p (q_assign rfl) (al_end (aq_then ?_))
          refine ac_ret (aq_inR (aq_thenR (aq_thenR (aq_inR ?_))))
          refine aq_thenR (ret1 Tryz.results24 rfl (fun w9 hs => ?_))
          first | (rw [decide_eq_false hne]; exact ⟨rfl, hs.below⟩) | (rw [decide_eq_true (show nx = nj ∧ hdP xs js nx from ⟨hxy, by rw [← hke]; exact hF1.2⟩)]; exact ⟨rfl, hs.below⟩)
        · have g2 := of_decide_eq_false h3
          have hok : (wthn (iA js k) (spA xs k).lo (spA xs k).hi) = true := wthn_iff.2 (by omega)
          refine ac_skip (aq_inN (aq_then (ac_region (al_p (q_move rfl) ?_))))
          refine al_p (q_add rfl rfl (by omega)) (al_p (q_assign rfl) (al_end (aq_then ?_)))
          skip
          refine aq_round (k + 1) (by omega) ⟨by omega, fun j h1 => (Nat.lt_or_ge j k).elim (fun g => hF1.2 j g) (fun g => by (have e : j = k := by omega); rw [e]; exact hok)⟩ ⟨rfl, rfl, rfl, rfl, trivial⟩ (fun w9 hs => hs)
    · have hke : k = nx := by have := of_decide_eq_false h2; omega
      refine ac_exit (aq_thenE (aq_thenE (aq_hit (aq_then ?_))))
      refine ac_seq (ac_region ?_)
      refine al_p (q_assign rfl) (al_end (aq_then ?_))
      refine ac_ret (ret1 Tryz.results24 rfl (fun w9 hs => ?_))
      first | (rw [decide_eq_false hne]; exact ⟨rfl, hs.below⟩) | (rw [decide_eq_true (show nx = nj ∧ hdP xs js nx from ⟨hxy, by rw [← hke]; exact hF1.2⟩)]; exact ⟨rfl, hs.below⟩)
def trC (g : GridD) (xs : List SpanD) (k : Nat) : List Value := (lst k (fun k => spA xs (sigma g k))).flatMap SpanD.cells
theorem trC_succ (g : GridD) (xs : List SpanD) (k : Nat) : trC g xs (k + 1) = trC g xs k ++ SpanD.cells (spA xs (sigma g k)) := by unfold trC; rw [lst_snoc, List.flatMap_append]; simp
theorem rvbox_yes (R : MachR) (M : MachD) (X : Option Addr) (nx cx : Nat) (xs : List SpanD) (t : Int) (w : World) (hM : IsM w R M) (hS : IsT 2 SpanD.cells w X nx xs) (hlx : nx ≤ 1000000000000000) (h : boxB M t xs = true) : Calls Tryz.prog 29 #[.agg (mCs R M).toArray, .int .i64 t, .slice X nx cx] w (Ret (.bool true) w) := by
  have h9 := rvbox_any R M X nx cx xs t w hM hS hlx
  rwa [h] at h9
theorem rvbox_no (R : MachR) (M : MachD) (X : Option Addr) (nx cx : Nat) (xs : List SpanD) (t : Int) (w : World) (hM : IsM w R M) (hS : IsT 2 SpanD.cells w X nx xs) (hlx : nx ≤ 1000000000000000) (h : boxB M t xs = false) : Calls Tryz.prog 29 #[.agg (mCs R M).toArray, .int .i64 t, .slice X nx cx] w (Ret (.bool false) w) := by
  have h9 := rvbox_any R M X nx cx xs t w hM hS hlx
  rwa [h] at h9
theorem sigma_val {g : GridD} {c d k : Nat} (hc : g.nr = c) (hd : g.nz = d) (hk : k < d * c) : ∃ q r : Nat, (k : Int).tdiv g.nr = (q : Int) ∧ (k : Int).tmod g.nr = (r : Int) ∧ q < d ∧ r < c ∧ (g.nz - 1 - (k : Int).tdiv g.nr) * g.nr = (((d - 1 - q) * c : Nat) : Int) ∧ sigma g k = (d - 1 - q) * c + r ∧ (d - 1 - q) * c + c ≤ d * c := by
  have hc0 : 0 < c := by
    rcases Nat.eq_zero_or_pos c with h | h
    · subst h; simp at hk
    · exact h
  have h1 : k / c < d := (Nat.div_lt_iff_lt_mul hc0).2 hk
  have h2 : k % c < c := Nat.mod_lt _ hc0
  have e1 : (k : Int).tdiv g.nr = ((k / c : Nat) : Int) := by rw [hc, Int.tdiv_eq_ediv_of_nonneg (by omega), Int.natCast_ediv]
  have e2 : (k : Int).tmod g.nr = ((k % c : Nat) : Int) := by rw [hc, Int.tmod_eq_emod_of_nonneg (by omega), Int.natCast_emod]
  have hs := sigma_at g (k / c) (k % c) c d hc hd h1 h2
  rw [show k / c * c + k % c = k by rw [Nat.mul_comm]; exact Nat.div_add_mod k c] at hs
  refine ⟨k / c, k % c, e1, e2, h1, h2, ?_, hs, ?_⟩
  · rw [e1, hd, hc, show (d : Int) - 1 - ((k / c : Nat) : Int) = ((d - 1 - k / c : Nat) : Int) by omega, Int.natCast_mul]
  · generalize k / c = q at h1 ⊢
    rw [← Nat.succ_mul]; exact Nat.mul_le_mul_right c (by omega)
set_option maxRecDepth 100000 in
theorem rmbox_ok (R : MachR) (M : MachD) (X : Option Addr) (nx cx : Nat) (xs : List SpanD) (w : World) (hM : IsM w R M) (hS : IsT 2 SpanD.cells w X nx xs) (hlx : nx ≤ 1000000000000000) (hv : boxB M 1000000 xs = true) : Calls Tryz.prog 22 #[(.agg (mCs R M).toArray), (.slice X nx cx)] w (OutT 2 SpanD.cells w (mrE M xs) (mrR M xs)) := by
  have hB := boxB_iff.1 hv
  have hg := (sound_of hB.check).grid
  obtain ⟨c, d, hc, hd, hn⟩ := fine_nat hg
  have hcf := cells_fine hg
  have hn0 := hg.n0
  have hn1 := hg.n1
  have hk0 := hg.k0
  have hk1 := hg.k1
  have n1 := hS.1
  have n2 := hB.len
  have n3 := cellN_eq hB.check
  have hln : xs.length = d * c := by omega
  refine calls_ax (vs := [(.agg (mCs R M).toArray), (.slice X nx cx)]) Tryz.func22 rfl rfl ?_
  refine ac_seq (ac_region ?_)
  refine al_new (fun b => .pointer (some ⟨b, 0, none⟩)) (r_box rfl rfl) rfl rfl rfl ?_
  intro b1
  refine al_p (q_assign rfl) (al_p (q_assign rfl) (al_end (aq_then ?_)))
  refine ac_seq (ac_seq (ac_region ?_))
  refine al_p (q_loadAll (i := 0) rfl rfl Tryz.isAgg29 Tryz.sizeOf29 rfl) (al_p (q_move rfl) (al_call Tryz.call29 (.cons rfl (.cons rfl (.cons rfl .nil))) rfl rfl (fun w1 hs1 => ?_)))
  refine (rvbox_yes R M X nx cx xs 1000000 _ (hM.below hs1.below) (hS.below hs1.below) hlx hv).mono ?_
  rintro e u1 ⟨rfl, hb_1⟩
  refine ⟨_, rfl, hb_1, ?_⟩
  clear hs1
  refine al_p (q_not rfl) (al_end (aq_then ?_))
  refine ac_condF rfl (ac_skip (aq_then (ac_seq (ac_region ?_))))
  refine al_p (q_fieldAddr 4 rfl Tryz.runUnderlying29 rfl Tryz.sizeOf26 (by decide) rfl) (al_p (q_loadSub (i := 0) rfl rfl Tryz.isAgg26 Tryz.sizeOf26 .k4 .k5) (al_new (fun b => .pointer (some ⟨b, 0, none⟩)) (r_alloc Tryz.zeroValue26 rfl) rfl rfl rfl ?_))
  intro b2
  refine al_storeAll (i := 0) rfl rfl rfl rfl Tryz.sizeOf26 rfl rfl .k0 rfl (al_end (aq_then ?_))
  refine ac_seq (ac_region ?_)
  refine al_p (q_assign rfl) (al_end (aq_then ?_))
  refine ac_seq (ac_seq (ac_region ?_))
  refine al_p (q_assign rfl) (al_end (aq_then ?_))
  refine ac_block ?_
  refine ac_loop (β := Nat × Gr) (fun p => p.1 ≤ nx ∧ gok p.2 p.1 2 (trC M.grid xs p.1)) (fun p => [(1, (.slice X nx cx)), (4, (.slice none 0 0)), (5, (.int .i64 0)), (6, (.pointer (some ⟨b2, 0, none⟩))), (7, (.slice (gA p.2) p.1 (gC p.2))), (8, (.int .i64 (p.1 : Int)))]) (fun _ => _) (fun p => (b2, _) :: (b1, _) :: (gt p.2 (trC M.grid xs p.1) ++ ([]))) (fun p => nx - p.1) (0, none) ⟨Nat.zero_le _, gok.none 2⟩ ⟨rfl, rfl, rfl, rfl, rfl, rfl, trivial⟩ (fun w9 hs => (by rw [show gt none (trC M.grid xs 0) = [] from rfl, List.nil_append]; exact hs)) (fun p hF1 => ?_)
  obtain ⟨hpx, hgp⟩ := hF1
  refine ac_seq (ac_seq (ac_region ?_))
  refine al_p (q_move rfl) (al_p (q_move rfl) (al_p (q_lenS rfl Tryz.runUnderlying45) (al_p (q_lss rfl rfl) (al_end (aq_then ?_)))))
  refine ac_cond rfl (fun h1 => ?_) (fun h1 => ?_)
  · have hkn : p.1 < nx := by have := of_decide_eq_true h1; omega
    obtain ⟨q, r, v1, v2, v3, v4, v5, v6, v7⟩ := sigma_val (g := M.grid) (k := p.1) hc hd (by omega)
    obtain ⟨b11, o11, hA1, hlt1, hget1⟩ := hS.2 (by omega)
    have hx1 := spA_get (x := xs) (k := sigma M.grid p.1) (by omega)
    refine ac_skip (aq_then (ac_seq (ac_block (ac_drawF 22 (.s (.s .z)) (by kernel_rfl) (by kernel_rfl) ?_))))
    refine ah_t 0 (fun w9 hs => (hs.front (.s (.s (.z))))) rfl rfl (by kernel_rfl) (q_move rfl) (ah_t 1 (fun w9 hs => (hs.front (.s (.s (.z))))) rfl rfl (by kernel_rfl) (q_move rfl) ?_)
    refine ah_t 2 (fun w9 hs => (hs.front (.s (.s (.z))))) rfl rfl (by kernel_rfl) (q_fieldAddr 3 rfl Tryz.runUnderlying26 rfl Tryz.sizeOf3 (by decide) rfl) (ah_t 3 (fun w9 hs => (hs.front (.s (.s (.z))))) rfl rfl (by kernel_rfl) (q_load (i := 0) rfl rfl rfl Tryz.isAgg3) ?_)
    refine ah_t 4 (fun w9 hs => (hs.front (.s (.s (.z))))) rfl rfl (by kernel_rfl) (q_sub rfl rfl (by omega)) (ah_t 5 (fun w9 hs => (hs.front (.s (.s (.z))))) rfl rfl (by kernel_rfl) (q_move rfl) ?_)
    refine ah_t 6 (fun w9 hs => (hs.front (.s (.s (.z))))) rfl rfl (by kernel_rfl) (q_fieldAddr 2 rfl Tryz.runUnderlying26 rfl Tryz.sizeOf3 (by decide) rfl) (ah_t 7 (fun w9 hs => (hs.front (.s (.s (.z))))) rfl rfl (by kernel_rfl) (q_load (i := 0) rfl rfl rfl Tryz.isAgg3) ?_)
    refine ah_t 8 (fun w9 hs => (hs.front (.s (.s (.z))))) rfl rfl (by kernel_rfl) (q_quo rfl rfl (by omega)) ?_
    refine ah_t 9 (fun w9 hs => (hs.front (.s (.s (.z))))) rfl rfl (by kernel_rfl) (q_sub rfl rfl (by omega)) ?_
    refine ah_t 10 (fun w9 hs => (hs.front (.s (.s (.z))))) rfl rfl (by kernel_rfl) (q_fieldAddr 2 rfl Tryz.runUnderlying26 rfl Tryz.sizeOf3 (by decide) rfl) (ah_t 11 (fun w9 hs => (hs.front (.s (.s (.z))))) rfl rfl (by kernel_rfl) (q_load (i := 0) rfl rfl rfl Tryz.isAgg3) ?_)
    refine ah_t 12 (fun w9 hs => (hs.front (.s (.s (.z))))) rfl rfl (by kernel_rfl) (q_mul rfl rfl (by omega)) (ah_t 13 (fun w9 hs => (hs.front (.s (.s (.z))))) rfl rfl (by kernel_rfl) (q_move rfl) ?_)
    refine ah_t 14 (fun w9 hs => (hs.front (.s (.s (.z))))) rfl rfl (by kernel_rfl) (q_fieldAddr 2 rfl Tryz.runUnderlying26 rfl Tryz.sizeOf3 (by decide) rfl) (ah_t 15 (fun w9 hs => (hs.front (.s (.s (.z))))) rfl rfl (by kernel_rfl) (q_load (i := 0) rfl rfl rfl Tryz.isAgg3) ?_)
    refine ah_t 16 (fun w9 hs => (hs.front (.s (.s (.z))))) rfl rfl (by kernel_rfl) (q_rem rfl rfl (by omega)) ?_
    refine ah_t 17 (fun w9 hs => (hs.front (.s (.s (.z))))) rfl rfl (by kernel_rfl) (q_add rfl rfl (by omega)) ?_
    refine ah_t 18 (fun w9 hs => (hs.front (.s (.s (.z))))) rfl rfl (by kernel_rfl) (q_indexAddrA (i := (sigma M.grid p.1)) (o11 + (sigma M.grid p.1) * 2 + 0) hA1 rfl rfl (by omega) (by omega) Tryz.runUnderlying45 Tryz.sizeOf52 rfl) (ah_t 19 (fun w9 hs => (hs.front (.s (.s (.z))))) rfl rfl (by kernel_rfl) (q_loadXs (SpanD.cells (spA xs (sigma M.grid p.1))) rfl Tryz.isAgg52 Tryz.sizeOf52 (fun w9 hs j9 v9 h9 => by rw [addr_add]; exact (hs.below.cell (p := ⟨_, _, none⟩) hlt1).trans ((hget1 (sigma M.grid p.1) _ hx1) j9 v9 h9)) rfl) (ah_one 20 rfl (by kernel_rfl) (fun hok1 hcl1 => ?_)))
    refine al_new (fun b => .slice (some ⟨b, 0, none⟩) 1 1) (r_buildSlice (.cons rfl .nil) (eqn_bs_apiSpan_1_0_ _ _)) rfl rfl rfl ?_
    intro b3
    refine al_end (ah_back hok1 hcl1 (fun w9 hs => ((hs.tail 1 rfl).front (.s (.s (.z))))) ?_)
    refine ah_one 21 rfl (by kernel_rfl) (fun hok2 hcl2 => ?_)
    refine al_grow (z := 2) (bytes := 16) (zv := (.agg #[.int .i64 0, .int .i64 0])) (o := p.2) (cs := (trC M.grid xs p.1)) (vs := [.int .i64 (spA xs (sigma M.grid p.1)).lo, .int .i64 (spA xs (sigma M.grid p.1)).hi]) rfl rfl (.s (.s (.s (.z)))) hgp (Sor.box (j := 0) rfl rfl rfl) Tryz.underlying45 (by kernel_rfl) rfl (by omega) (by decide) rfl rfl (fun o_1 g_1 => ?_)
    refine ⟨_, (.s (.s (.s (.z)))), ?_⟩
    refine al_end (ah_back hok2 hcl2 (fun w9 hs => ((hs.tail 1 rfl).front (.s (.s (.z))))) ?_)
    refine ah_one 22 rfl (by kernel_rfl) (fun hok3 hcl3 => ?_)
    refine al_p (q_assign rfl) (al_end (ah_last (by kernel_rfl) ?_))
    refine aq_inN (aq_then (ac_region (al_p (q_move rfl) ?_)))
    refine al_p (q_add rfl rfl (by omega)) (al_p (q_assign rfl) (al_end (aq_then ?_)))
    skip
    refine aq_round ((p.1 + 1, o_1)) (by simp only; omega) ⟨by simp only; omega, by simp only; rw [trC_succ]; exact g_1⟩ ⟨rfl, rfl, rfl, rfl, rfl, rfl, trivial⟩ (fun w9 hs => (by dsimp only; rw [trC_succ]; exact (hs.tail 1 rfl)))
  · have hke : p.1 = nx := by have := of_decide_eq_false h1; omega
    refine ac_exit (aq_thenE (aq_thenE (aq_hit (aq_then ?_))))
    refine ac_seq (ac_region ?_)
    refine al_p (q_move rfl) (al_p (q_assign rfl) (al_p (q_assign rfl) (al_end (aq_then ?_))))
    refine ac_ret (ret2 Tryz.results22 rfl rfl (fun w9 hs => ?_))
    unfold mrE mrR
    rw [if_pos hv, if_pos hv, turnX, n1]
    exact OutT.ok (n := p.1) (by have h9 := hs.grown (enc := SpanD.cells) (o := p.2) (cs := trC M.grid xs p.1) (zs := lst p.1 (fun k => spA xs (sigma M.grid k))) (fun _ => rfl) (fun y hy => by simp [hy]) hgp rfl (lst_length _ _); rw [hke] at h9 ⊢; exact h9) hs.below
set_option maxRecDepth 100000 in
theorem rmbox_bad (R : MachR) (M : MachD) (X : Option Addr) (nx cx : Nat) (xs : List SpanD) (w : World) (hM : IsM w R M) (hS : IsT 2 SpanD.cells w X nx xs) (hlx : nx ≤ 1000000000000000) (hv : boxB M 1000000 xs = false) : Calls Tryz.prog 22 #[(.agg (mCs R M).toArray), (.slice X nx cx)] w (Ret (.tuple #[.slice none 0 0, .int .i64 1]) w) := by
  refine calls_ax (vs := [(.agg (mCs R M).toArray), (.slice X nx cx)]) Tryz.func22 rfl rfl ?_
  refine ac_seq (ac_region ?_)
  refine al_new (fun b => .pointer (some ⟨b, 0, none⟩)) (r_box rfl rfl) rfl rfl rfl ?_
  intro b1
  refine al_p (q_assign rfl) (al_p (q_assign rfl) (al_end (aq_then ?_)))
  refine ac_seq (ac_seq (ac_region ?_))
  refine al_p (q_loadAll (i := 0) rfl rfl Tryz.isAgg29 Tryz.sizeOf29 rfl) (al_p (q_move rfl) (al_call Tryz.call29 (.cons rfl (.cons rfl (.cons rfl .nil))) rfl rfl (fun w1 hs1 => ?_)))
  refine (rvbox_no R M X nx cx xs 1000000 _ (hM.below hs1.below) (hS.below hs1.below) hlx hv).mono ?_
  rintro e u1 ⟨rfl, hb_1⟩
  refine ⟨_, rfl, hb_1, ?_⟩
  clear hs1
  refine al_p (q_not rfl) (al_end (aq_then ?_))
  refine ac_condT rfl (ac_seq (ac_region ?_))
  refine al_p (q_assign rfl) (al_p (q_assign rfl) (al_end (aq_then ?_)))
  refine ac_ret (aq_thenR (ret2 Tryz.results22 rfl rfl (fun w9 hs => ?_)))
  exact ⟨rfl, hs.below⟩
theorem rmbox_any (R : MachR) (M : MachD) (X : Option Addr) (nx cx : Nat) (xs : List SpanD) (w : World) (hM : IsM w R M) (hS : IsT 2 SpanD.cells w X nx xs) (hlx : nx ≤ 1000000000000000) : Calls Tryz.prog 22 #[.agg (mCs R M).toArray, .slice X nx cx] w (OutT 2 SpanD.cells w (mrE M xs) (mrR M xs)) := by
  by_cases hv : boxB M 1000000 xs = true
  · exact rmbox_ok R M X nx cx xs w hM hS hlx hv
  · rw [show mrE M xs = 1 from if_neg hv, show mrR M xs = [] from if_neg hv]
    exact (rmbox_bad R M X nx cx xs w hM hS hlx (by simpa using hv)).mono fun e w' h9 => ⟨none, 0, 0, h9.1, newT_nil, h9.2⟩
end
end Go.Proofs.YtogcjgjhmlifgaaGreat
