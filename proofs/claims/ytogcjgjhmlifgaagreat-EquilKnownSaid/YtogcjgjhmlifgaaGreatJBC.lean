import Derived.Test.YtogcjgjhmlifgaaGreatJAA
import Derived.Test.YtogcjgjhmlifgaaGreatJAE
import Derived.Test.YtogcjgjhmlifgaaGreatJAG
import Derived.Test.YtogcjgjhmlifgaaGreatJBA
import Derived.Test.YtogcjgjhmlifgaaGreatJBB
import Derived.Test.YtogcjgjhmlifgaaGreatRows
import Derived.KernelRfl
import Derived.Laws.StructEq
import Derived.ProofKit
import Derived.OpenShut
import Derived.Lib.SmallJoins
import Derived.Deep.Slices
import Derived.Carry
namespace Go.Proofs.YtogcjgjhmlifgaaGreat
set_option linter.unusedVariables false
set_option linter.unusedSimpArgs false
section
open Go.RowKit
def evI (n t : Int) (k : Nat) : List Value := (lst k (evA n t)).flatMap intCells
theorem evI_succ (n t : Int) (k : Nat) : evI n t (k + 1) = evI n t k ++ [.int .i64 (evA n t k)] := by unfold evI; rw [lst_snoc, List.flatMap_append]; simp [intCells]
theorem rwth_yes (n a b : Int) (w : World) (h1 : a ≤ n) (h2 : n ≤ b) : Calls Tryz.prog 48 #[.int .i64 n, .int .i64 a, .int .i64 b] w (Ret (.bool true) w) := by
  have h := rw5_any n a b w
  rwa [wthn_iff.2 ⟨h1, h2⟩] at h
theorem rtot_yes (n : Int) (w : World) (h1 : 1 ≤ n) (h2 : n ≤ 1000000) : Calls Tryz.prog 49 #[.int .i64 n] w (Ret (.bool true) w) := by
  have h := rtot_any n w
  rwa [wthn_iff.2 ⟨h1, h2⟩] at h
theorem same5 (A B : Option Addr) (la ca lb cb : Nat) (xs : List Int) (w : World) (h1 : IsT 1 intCells w A la xs) (h2 : IsT 1 intCells w B lb xs) (l : xs.length ≤ 1000) : Calls Tryz.prog 13 #[.slice A la ca, .slice B lb cb] w (Ret (.bool true) w) := by
  have n1 := h1.1
  have n2 := h2.1
  have h := rsame_any A B la ca lb cb xs xs w h1 h2 (by omega) (by omega)
  rwa [decide_eq_true rfl] at h
theorem evL_len (n t : Int) : (evL n t).length ≤ 64 := by
  unfold evL
  split
  · rename_i h
    simp only [Bool.and_eq_true, wthn_iff] at h
    rw [lst_length]; omega
  · exact Nat.zero_le _
theorem eqb_bs_int_1_0_ (a0 : Value) (ha0 : a0.oneCell' = true) : ∀ w, (Instr.buildSlice 30 1 #[(0, a0)]).run Tryz.prog w = .ok (.slice (some ⟨w.heap.size, 0, none⟩) 1 1) (w.alloc (.cells [a0].toArray 3)) := by
  have ea0 : a0.cells = #[a0] := cells_one ha0
  intro w; (simp [Instr.buildSlice, Instr.fill, cells_agg, newRow, Tryz.runUnderlying30, Tryz.zeroValue3, Tryz.sizeOf3, ea0] <;> (rw [(by kernel_rfl : Array.range 1 = #[0])]; simp [Value.cells]))
set_option maxRecDepth 100000 in
theorem rEven_ok (n : Nat) (t : Int) (w : World) (h1 : 1 ≤ n) (h2 : n ≤ 64) (t0 : 1 ≤ t) (t1 : t ≤ 1000000) : Calls Tryz.prog 15 #[(.int .i64 (n : Int)), (.int .i64 t)] w (fun e w' => ∃ A c, e = .returned (.slice A n c) ∧ NewT 1 intCells w.heap.size w' A n c (lst n (evA (n : Int) t)) ∧ Below w.heap.size w w') := by
  obtain ⟨d1, d2⟩ := ev_div (n := n) (t := t) h1 (by omega)
  have d3 : t / (n : Int) ≤ t := Int.ediv_le_self _ (by omega)
  have d4 : 0 ≤ t / (n : Int) := Int.ediv_nonneg (by omega) (by omega)
  refine calls_ax (vs := [(.int .i64 (n : Int)), (.int .i64 t)]) Tryz.func15 rfl rfl ?_
  refine ac_seq (ac_region ?_)
  refine al_p (q_assign rfl) (al_end (aq_then ?_))
  refine ac_seq (ac_seq (ac_region ?_))
  refine al_p (q_move rfl) (al_call Tryz.call48 (.cons rfl (.cons rfl (.cons rfl .nil))) rfl rfl (fun w1 hs1 => ?_))
  refine (rwth_yes (n : Int) 1 64 _ (by omega) (by omega)).mono ?_
  rintro e u1 ⟨rfl, hb_1⟩
  refine ⟨_, rfl, hb_1, ?_⟩
  clear hs1
  refine al_p (q_not rfl) (al_p (q_move rfl) (al_p (q_move rfl) (al_call Tryz.call49 (.cons rfl .nil) rfl rfl (fun w2 hs2 => ?_))))
  refine (rtot_yes t _ t0 t1).mono ?_
  rintro e u2 ⟨rfl, hb_2⟩
  refine ⟨_, rfl, hb_2, ?_⟩
  clear hs2
  refine al_p (q_not rfl) (al_p (q_pickF rfl rfl) (al_end (aq_then ?_)))
  refine ac_condF rfl (ac_skip (aq_then (ac_seq (ac_region ?_))))
  refine al_p (q_assign rfl) (al_end (aq_then ?_))
  refine ac_seq (ac_seq (ac_region ?_))
  refine al_p (q_assign rfl) (al_end (aq_then ?_))
  refine ac_block ?_
  refine ac_loop (β := Nat × Gr) (fun p => p.1 ≤ n ∧ gok p.2 p.1 1 (evI (n : Int) t p.1)) (fun p => [(0, (.int .i64 (n : Int))), (1, (.int .i64 t)), (4, (.slice none 0 0)), (5, (.slice (gA p.2) p.1 (gC p.2))), (6, (.int .i64 (p.1 : Int)))]) (fun _ => _) (fun p => (gt p.2 (evI (n : Int) t p.1) ++ ([]))) (fun p => n - p.1) (0, none) ⟨Nat.zero_le _, gok.none 1⟩ ⟨rfl, rfl, rfl, rfl, rfl, trivial⟩ (fun w9 hs => (by rw [show gt none (evI (n : Int) t 0) = [] from rfl, List.nil_append]; exact hs)) (fun p hF1 => ?_)
  obtain ⟨hpx, hgp⟩ := hF1
  refine ac_seq (ac_seq (ac_region ?_))
  refine al_p (q_move rfl) (al_p (q_move rfl) (al_p (q_lss rfl rfl) (al_end (aq_then ?_))))
  refine ac_cond rfl (fun h1 => ?_) (fun h1 => ?_)
  · have hkn : p.1 < n := by have := of_decide_eq_true h1; omega
    refine ac_skip (aq_then (ac_seq (ac_block (ac_seq (ac_region ?_)))))
    refine al_p (q_move rfl) (al_p (q_move rfl) ?_)
    refine al_p (q_quo rfl rfl (by omega)) (al_p (q_assign rfl) (al_end (aq_then ?_)))
    refine ac_seq (ac_seq (ac_region ?_))
    refine al_p (q_move rfl) (al_p (q_move rfl) (al_p (q_move rfl) ?_))
    refine al_p (q_rem rfl rfl (by omega)) (al_p (q_lss rfl rfl) (al_end (aq_then ?_)))
    refine ac_cond rfl (fun h2 => ?_) (fun h2 => ?_)
    · have hv : t.tdiv (n : Int) + 1 = evA (n : Int) t p.1 := by rw [d1]; exact (if_pos (by have := of_decide_eq_true h2; omega)).symm
      refine ac_region (al_p (q_move rfl) ?_)
      refine al_p (q_add rfl rfl (by omega)) (al_p (q_assign rfl) (al_end (aq_then ?_)))
      refine ac_region (al_p (q_move rfl) (al_p (q_move rfl) (al_new (fun b => .slice (some ⟨b, 0, none⟩) 1 1) (r_buildSlice (.cons rfl .nil) (eqb_bs_int_1_0_ _ rfl)) rfl rfl rfl ?_)))
      intro b1
      refine al_grow (z := 1) (bytes := 8) (zv := (.int .i64 0)) (o := p.2) (cs := (evI (n : Int) t p.1)) (vs := [.int .i64 (t.tdiv (n : Int) + 1)]) rfl rfl (.s (.z)) hgp (Sor.box (j := 0) rfl rfl rfl) Tryz.underlying30 (by kernel_rfl) rfl (by omega) (by decide) rfl rfl (fun o_1 g_1 => ?_)
      refine ⟨_, (.s (.z)), ?_⟩
      refine al_p (q_assign rfl) (al_end (aq_inN (aq_then (ac_region ?_))))
      refine al_p (q_move rfl) ?_
      refine al_p (q_add rfl rfl (by omega)) (al_p (q_assign rfl) (al_end (aq_then ?_)))
      skip
      refine aq_round ((p.1 + 1, o_1)) (by simp only; omega) ⟨by simp only; omega, by simp only; rw [evI_succ, ← hv]; exact g_1⟩ ⟨rfl, rfl, rfl, rfl, rfl, trivial⟩ (fun w9 hs => (by dsimp only; rw [evI_succ, ← hv]; exact (hs.tail 1 rfl)))
    · have hv : t.tdiv (n : Int) = evA (n : Int) t p.1 := by rw [d1]; exact (if_neg (by have := of_decide_eq_false h2; omega)).symm
      refine ac_skip (aq_then (ac_region (al_p (q_move rfl) (al_p (q_move rfl) ?_))))
      refine al_new (fun b => .slice (some ⟨b, 0, none⟩) 1 1) (r_buildSlice (.cons rfl .nil) (eqb_bs_int_1_0_ _ rfl)) rfl rfl rfl ?_
      intro b2
      refine al_grow (z := 1) (bytes := 8) (zv := (.int .i64 0)) (o := p.2) (cs := (evI (n : Int) t p.1)) (vs := [.int .i64 (t.tdiv (n : Int))]) rfl rfl (.s (.z)) hgp (Sor.box (j := 0) rfl rfl rfl) Tryz.underlying30 (by kernel_rfl) rfl (by omega) (by decide) rfl rfl (fun o_2 g_2 => ?_)
      refine ⟨_, (.s (.z)), ?_⟩
      refine al_p (q_assign rfl) (al_end (aq_inN (aq_then (ac_region ?_))))
      refine al_p (q_move rfl) ?_
      refine al_p (q_add rfl rfl (by omega)) (al_p (q_assign rfl) (al_end (aq_then ?_)))
      skip
      refine aq_round ((p.1 + 1, o_2)) (by simp only; omega) ⟨by simp only; omega, by simp only; rw [evI_succ, ← hv]; exact g_2⟩ ⟨rfl, rfl, rfl, rfl, rfl, trivial⟩ (fun w9 hs => (by dsimp only; rw [evI_succ, ← hv]; exact (hs.tail 1 rfl)))
  · have hke : p.1 = n := by have := of_decide_eq_false h1; omega
    refine ac_exit (aq_thenE (aq_thenE (aq_hit (aq_then ?_))))
    refine ac_seq (ac_region ?_)
    refine al_p (q_move rfl) (al_p (q_assign rfl) (al_end (aq_then ?_)))
    refine ac_ret (ret1 Tryz.results15 rfl (fun w9 hs => ?_))
    exact ⟨gA p.2, gC p.2, by rw [hke], by have h9 := hs.grown (enc := intCells) (o := p.2) (cs := evI (n : Int) t p.1) (zs := lst p.1 (evA (n : Int) t)) (fun _ => rfl) (fun y hy => by simp [hy]) hgp rfl (lst_length _ _); rw [hke] at h9; exact h9, hs.below⟩
set_option maxRecDepth 100000 in
theorem rEven_bad (n t : Int) (w : World) (h : (wthn n 1 64 && wthn t 1 1000000) = false) : Calls Tryz.prog 15 #[(.int .i64 n), (.int .i64 t)] w (Ret (.slice none 0 0) w) := by
  refine calls_ax (vs := [(.int .i64 n), (.int .i64 t)]) Tryz.func15 rfl rfl ?_
  refine ac_seq (ac_region ?_)
  refine al_p (q_assign rfl) (al_end (aq_then ?_))
  refine ac_seq (ac_seq (ac_region ?_))
  refine al_p (q_move rfl) (al_call Tryz.call48 (.cons rfl (.cons rfl (.cons rfl .nil))) rfl rfl (fun w1 hs1 => ?_))
  refine (rw5_any n 1 64 _).mono ?_
  rintro e u1 ⟨rfl, hb_1⟩
  refine ⟨_, rfl, hb_1, ?_⟩
  clear hs1
  refine al_p (q_not rfl) (al_p (q_move rfl) ?_)
  refine aq_split 11 rfl (fun hb1 => ?_) (fun hb1 => ?_)
  · skip
    refine al_skip rfl rfl rfl (al_skip rfl rfl rfl (al_skip rfl rfl rfl (al_p (q_pickT rfl rfl) (al_end (aq_then ?_)))))
    refine ac_condT rfl (ac_seq (ac_region ?_))
    refine al_p (q_assign rfl) (al_end (aq_then ?_))
    refine ac_ret (aq_thenR (ret1 Tryz.results15 rfl (fun w9 hs => ?_)))
    exact ⟨rfl, hs.below⟩
  · have g1 : wthn n 1 64 = true := by simpa using hb1
    refine al_p (q_move rfl) (al_call Tryz.call49 (.cons rfl .nil) rfl rfl (fun w2 hs2 => ?_))
    refine (rtot_any t _).mono ?_
    rintro e u2 ⟨rfl, hb_2⟩
    refine ⟨_, rfl, hb_2, ?_⟩
    clear hs2
    refine al_p (q_not rfl) (al_p (q_pickF rfl rfl) (al_end (aq_then ?_)))
    refine ac_cond rfl (fun h1 => ?_) (fun h1 => ?_)
    · skip
      refine ac_seq (ac_region ?_)
      refine al_p (q_assign rfl) (al_end (aq_then ?_))
      refine ac_ret (aq_thenR (ret1 Tryz.results15 rfl (fun w9 hs => ?_)))
      exact ⟨rfl, hs.below⟩
    · exfalso; rw [g1] at h; simp at h; simp [h] at h1
theorem rEven_any (n t : Int) (w : World) : Calls Tryz.prog 15 #[.int .i64 n, .int .i64 t] w (fun e w' => ∃ A k c, e = .returned (.slice A k c) ∧ NewT 1 intCells w.heap.size w' A k c (evL n t) ∧ Below w.heap.size w w') := by
  by_cases h : (wthn n 1 64 && wthn t 1 1000000) = true
  · have hE : evL n t = lst n.toNat (evA n t) := if_pos h
    simp only [Bool.and_eq_true, wthn_iff] at h
    obtain ⟨m, rfl⟩ := Int.eq_ofNat_of_zero_le (show 0 ≤ n by omega)
    refine (rEven_ok m t w (by omega) (by omega) (by omega) (by omega)).mono fun e w' ⟨A, c, h1, h2, h3⟩ => ⟨A, m, c, h1, ?_, h3⟩
    rw [hE]; exact h2
  · have hE : evL n t = [] := if_neg h
    refine (rEven_bad n t w (by simpa using h)).mono fun e w' h9 => ⟨none, 0, 0, h9.1, by rw [hE]; exact ⟨IsT.nil _ _ _ _, (fun b off e => by cases e), by omega, by omega⟩, h9.2⟩
def BriefB5 (R : MachR) (Q : CurR) : Prop := R.la ≤ 40 ∧ R.lb ≤ 40 ∧ R.lc ≤ 40 ∧ R.ld ≤ 60 ∧ Q.la ≤ 100 ∧ Q.lb ≤ 100 ∧ Q.lc ≤ 200
set_option maxRecDepth 100000 in
theorem brief5_any (R : MachR) (M : MachD) (Q : CurR) (g : Int) (w : World) : Calls Tryz.prog 9 #[(.agg #[.string M.name, .slice R.A R.la R.ca, .slice R.B R.lb R.cb, .slice R.C R.lc R.cc, .int .i64 M.grid.r, .int .i64 M.grid.z, .int .i64 M.grid.nr, .int .i64 M.grid.nz, .int .i64 M.grid.step, .slice R.D R.ld R.cd, .slice Q.A Q.la Q.ca, .slice Q.B Q.lb Q.cb, .slice Q.C Q.lc Q.cc, .int .i64 g])] w (fun e w' => ∃ b : Bool, e = .returned (.bool b) ∧ (b = true → BriefB5 R Q) ∧ Below w.heap.size w w') := by
  refine calls_ax (vs := [(.agg #[.string M.name, .slice R.A R.la R.ca, .slice R.B R.lb R.cb, .slice R.C R.lc R.cc, .int .i64 M.grid.r, .int .i64 M.grid.z, .int .i64 M.grid.nr, .int .i64 M.grid.nz, .int .i64 M.grid.step, .slice R.D R.ld R.cd, .slice Q.A Q.la Q.ca, .slice Q.B Q.lb Q.cb, .slice Q.C Q.lc Q.cc, .int .i64 g])]) Tryz.func9 rfl rfl ?_
  refine ac_seq (ac_region ?_)
  refine al_new (fun b => .pointer (some ⟨b, 0, none⟩)) (r_box rfl rfl) rfl rfl rfl ?_
  intro b1
  refine al_p (q_assign rfl) (al_end (aq_then ?_))
  refine ac_seq (ac_draw 7 (by kernel_rfl) (by kernel_rfl) ?_)
  refine ah_share (fuel' := 2) (listed' := #[true, true, true, true, true, true, false, false]) (fun K => ∀ (b1001 : Nat), ∀ (b3001 : Nat), K [(2, (.bool false)), (3, (.pointer (some ⟨b1001, 0, none⟩))), (4, (.pointer (some ⟨b3001, 0, none⟩))), (6, (.agg #[(.string M.name), (.slice R.A R.la R.ca), (.slice R.B R.lb R.cb), (.slice R.C R.lc R.cc), (.int .i64 M.grid.r), (.int .i64 M.grid.z), (.int .i64 M.grid.nr), (.int .i64 M.grid.nz), (.int .i64 M.grid.step), (.slice R.D R.ld R.cd)])), (8, (.agg #[(.slice Q.A Q.la Q.ca), (.slice Q.B Q.lb Q.cb), (.slice Q.C Q.lc Q.cc)]))] [(b3001, .cells [(.slice none 0 0), (.slice none 0 0), (.slice none 0 0)]), (b1001, .cells [(.string { data := #[] }), (.slice none 0 0), (.slice none 0 0), (.slice none 0 0), (.int .i64 0), (.int .i64 0), (.int .i64 0), (.int .i64 0), (.int .i64 0), (.slice none 0 0)]), (b1, .cells [(.string M.name), (.slice R.A R.la R.ca), (.slice R.B R.lb R.cb), (.slice R.C R.lc R.cc), (.int .i64 M.grid.r), (.int .i64 M.grid.z), (.int .i64 M.grid.nr), (.int .i64 M.grid.nz), (.int .i64 M.grid.step), (.slice R.D R.ld R.cd), (.slice Q.A Q.la Q.ca), (.slice Q.B Q.lb Q.cb), (.slice Q.C Q.lc Q.cc), (.int .i64 g)])]) ?_ (fun hS1_0 => ?_)
  · intro b1001 b3001
    refine ah_one 6 rfl (by kernel_rfl) (fun hok1 hcl1 => ?_)
    refine al_storeAll (i := 1) rfl rfl rfl rfl Tryz.sizeOf29 rfl rfl .k1 rfl (al_end (ah_back hok1 hcl1 (fun w9 hs => (hs.tail 2 rfl)) ?_))
    refine ah_one 7 rfl (by kernel_rfl) (fun hok2 hcl2 => ?_)
    refine al_storeAll (i := 0) rfl rfl rfl rfl Tryz.sizeOf32 rfl rfl .k0 rfl (al_end (ah_last (by kernel_rfl) ?_))
    refine aq_then (ac_seq (ac_region ?_))
    refine al_p (q_fieldAddr 1 rfl Tryz.runUnderlying29 rfl Tryz.sizeOf22 (by decide) rfl) (al_p (q_load (i := 1) rfl rfl rfl Tryz.isAgg22) (al_p (q_lenS rfl Tryz.runUnderlying22) (al_p (q_leq rfl rfl) (al_p (q_move rfl) ?_))))
    refine aq_split 13 rfl (fun hb1 => ?_) (fun hb1 => ?_)
    · have g13 := of_decide_eq_true hb1
      refine al_p (q_fieldAddr 2 rfl Tryz.runUnderlying29 rfl Tryz.sizeOf23 (by decide) rfl) (al_p (q_load (i := 1) rfl rfl rfl Tryz.isAgg23) (al_p (q_lenS rfl Tryz.runUnderlying23) (al_p (q_leq rfl rfl) (al_p (q_pickT rfl rfl) ?_))))
      refine al_p (q_move rfl) ?_
      refine aq_split 19 rfl (fun hb2 => ?_) (fun hb2 => ?_)
      · have g19 := of_decide_eq_true hb2
        refine al_p (q_fieldAddr 3 rfl Tryz.runUnderlying29 rfl Tryz.sizeOf24 (by decide) rfl) (al_p (q_load (i := 1) rfl rfl rfl Tryz.isAgg24) (al_p (q_lenS rfl Tryz.runUnderlying24) (al_p (q_leq rfl rfl) (al_p (q_pickT rfl rfl) ?_))))
        refine al_p (q_move rfl) ?_
        refine aq_split 25 rfl (fun hb3 => ?_) (fun hb3 => ?_)
        · have g25 := of_decide_eq_true hb3
          refine al_p (q_fieldAddr 9 rfl Tryz.runUnderlying29 rfl Tryz.sizeOf27 (by decide) rfl) (al_p (q_load (i := 1) rfl rfl rfl Tryz.isAgg27) (al_p (q_lenS rfl Tryz.runUnderlying27) (al_p (q_leq rfl rfl) (al_p (q_pickT rfl rfl) ?_))))
          refine al_p (q_move rfl) ?_
          refine aq_split 31 rfl (fun hb4 => ?_) (fun hb4 => ?_)
          · have g31 := of_decide_eq_true hb4
            refine al_p (q_fieldAddr 0 rfl Tryz.runUnderlying32 rfl Tryz.sizeOf30 (by decide) rfl) (al_p (q_load (i := 0) rfl rfl rfl Tryz.isAgg30) (al_p (q_lenS rfl Tryz.runUnderlying30) (al_p (q_leq rfl rfl) (al_p (q_pickT rfl rfl) ?_))))
            refine al_p (q_move rfl) ?_
            refine aq_split 37 rfl (fun hb5 => ?_) (fun hb5 => ?_)
            · have g37 := of_decide_eq_true hb5
              refine al_p (q_fieldAddr 1 rfl Tryz.runUnderlying32 rfl Tryz.sizeOf30 (by decide) rfl) (al_p (q_load (i := 0) rfl rfl rfl Tryz.isAgg30) (al_p (q_lenS rfl Tryz.runUnderlying30) (al_p (q_leq rfl rfl) (al_p (q_pickT rfl rfl) ?_))))
              refine al_p (q_move rfl) ?_
              refine aq_split 43 rfl (fun hb6 => ?_) (fun hb6 => ?_)
              · have g43 := of_decide_eq_true hb6
                refine al_p (q_fieldAddr 2 rfl Tryz.runUnderlying32 rfl Tryz.sizeOf30 (by decide) rfl) (al_p (q_load (i := 0) rfl rfl rfl Tryz.isAgg30) (al_p (q_lenS rfl Tryz.runUnderlying30) (al_p (q_leq rfl rfl) (al_p (q_pickT rfl rfl) ?_))))
                refine al_p (q_assign rfl) (al_end (aq_then ?_))
                refine ac_ret (ret1 Tryz.results9 rfl (fun w9 hs => ?_))
                first | exact ⟨false, rfl, (fun h => by cases h), hs.below⟩ | exact ⟨_, rfl, (fun h => by have := of_decide_eq_true h; unfold BriefB5; omega), hs.below⟩
              · skip
                refine al_skip rfl rfl rfl (al_skip rfl rfl rfl (al_skip rfl rfl rfl (al_skip rfl rfl rfl (al_p (q_pickF rfl rfl) ?_))))
                refine al_p (q_assign rfl) (al_end (aq_then ?_))
                refine ac_ret (ret1 Tryz.results9 rfl (fun w9 hs => ?_))
                first | exact ⟨false, rfl, (fun h => by cases h), hs.below⟩ | exact ⟨_, rfl, (fun h => by have := of_decide_eq_true h; unfold BriefB5; omega), hs.below⟩
            · skip
              refine al_skip rfl rfl rfl (al_skip rfl rfl rfl (al_skip rfl rfl rfl (al_skip rfl rfl rfl (al_p (q_pickF rfl rfl) ?_))))
              refine al_p (q_move rfl) (al_skip rfl rfl rfl (al_skip rfl rfl rfl (al_skip rfl rfl rfl (al_skip rfl rfl rfl ?_))))
              refine al_p (q_pickF rfl rfl) (al_p (q_assign rfl) (al_end (aq_then ?_)))
              refine ac_ret (ret1 Tryz.results9 rfl (fun w9 hs => ?_))
              first | exact ⟨false, rfl, (fun h => by cases h), hs.below⟩ | exact ⟨_, rfl, (fun h => by have := of_decide_eq_true h; unfold BriefB5; omega), hs.below⟩
          · skip
            refine al_skip rfl rfl rfl (al_skip rfl rfl rfl (al_skip rfl rfl rfl (al_skip rfl rfl rfl (al_p (q_pickF rfl rfl) ?_))))
            refine al_p (q_move rfl) (al_skip rfl rfl rfl (al_skip rfl rfl rfl (al_skip rfl rfl rfl (al_skip rfl rfl rfl ?_))))
            refine al_p (q_pickF rfl rfl) (al_p (q_move rfl) (al_skip rfl rfl rfl (al_skip rfl rfl rfl (al_skip rfl rfl rfl ?_))))
            refine al_skip rfl rfl rfl (al_p (q_pickF rfl rfl) (al_p (q_assign rfl) (al_end (aq_then ?_))))
            refine ac_ret (ret1 Tryz.results9 rfl (fun w9 hs => ?_))
            first | exact ⟨false, rfl, (fun h => by cases h), hs.below⟩ | exact ⟨_, rfl, (fun h => by have := of_decide_eq_true h; unfold BriefB5; omega), hs.below⟩
        · skip
          refine al_skip rfl rfl rfl (al_skip rfl rfl rfl (al_skip rfl rfl rfl (al_skip rfl rfl rfl (al_p (q_pickF rfl rfl) ?_))))
          refine al_p (q_move rfl) (al_skip rfl rfl rfl (al_skip rfl rfl rfl (al_skip rfl rfl rfl (al_skip rfl rfl rfl ?_))))
          refine al_p (q_pickF rfl rfl) (al_p (q_move rfl) (al_skip rfl rfl rfl (al_skip rfl rfl rfl (al_skip rfl rfl rfl ?_))))
          refine al_skip rfl rfl rfl (al_p (q_pickF rfl rfl) (al_p (q_move rfl) (al_skip rfl rfl rfl (al_skip rfl rfl rfl ?_))))
          refine al_skip rfl rfl rfl (al_skip rfl rfl rfl (al_p (q_pickF rfl rfl) (al_p (q_assign rfl) (al_end (aq_then ?_)))))
          refine aq_keepL [2] (.cons rfl .nil) ?_
          refine ac_ret (ret1 Tryz.results9 rfl (fun w9 hs => ?_))
          first | exact ⟨false, rfl, (fun h => by cases h), hs.below⟩ | exact ⟨_, rfl, (fun h => by have := of_decide_eq_true h; unfold BriefB5; omega), hs.below⟩
      · skip
        refine al_skip rfl rfl rfl (al_skip rfl rfl rfl (al_skip rfl rfl rfl (al_skip rfl rfl rfl (al_p (q_pickF rfl rfl) ?_))))
        refine al_p (q_move rfl) (al_skip rfl rfl rfl (al_skip rfl rfl rfl (al_skip rfl rfl rfl (al_skip rfl rfl rfl ?_))))
        refine al_p (q_pickF rfl rfl) (al_p (q_move rfl) (al_skip rfl rfl rfl (al_skip rfl rfl rfl (al_skip rfl rfl rfl ?_))))
        refine al_skip rfl rfl rfl (al_p (q_pickF rfl rfl) (al_p (q_move rfl) (al_skip rfl rfl rfl (al_skip rfl rfl rfl ?_))))
        refine al_skip rfl rfl rfl (al_skip rfl rfl rfl (al_p (q_pickF rfl rfl) (al_p (q_move rfl) (al_skip rfl rfl rfl ?_))))
        refine al_skip rfl rfl rfl (al_skip rfl rfl rfl (al_skip rfl rfl rfl (al_p (q_pickF rfl rfl) (al_p (q_assign rfl) ?_))))
        refine al_end (aq_then ?_)
        refine ac_ret (ret1 Tryz.results9 rfl (fun w9 hs => ?_))
        first | exact ⟨false, rfl, (fun h => by cases h), hs.below⟩ | exact ⟨_, rfl, (fun h => by have := of_decide_eq_true h; unfold BriefB5; omega), hs.below⟩
    · skip
      refine al_skip rfl rfl rfl (al_skip rfl rfl rfl (al_skip rfl rfl rfl (al_skip rfl rfl rfl (al_p (q_pickF rfl rfl) ?_))))
      refine al_p (q_move rfl) (al_skip rfl rfl rfl (al_skip rfl rfl rfl (al_skip rfl rfl rfl (al_skip rfl rfl rfl ?_))))
      refine al_p (q_pickF rfl rfl) (al_p (q_move rfl) (al_skip rfl rfl rfl (al_skip rfl rfl rfl (al_skip rfl rfl rfl ?_))))
      refine al_skip rfl rfl rfl (al_p (q_pickF rfl rfl) (al_p (q_move rfl) (al_skip rfl rfl rfl (al_skip rfl rfl rfl ?_))))
      refine al_skip rfl rfl rfl (al_skip rfl rfl rfl (al_p (q_pickF rfl rfl) (al_p (q_move rfl) (al_skip rfl rfl rfl ?_))))
      refine al_skip rfl rfl rfl (al_skip rfl rfl rfl (al_skip rfl rfl rfl (al_p (q_pickF rfl rfl) (al_p (q_move rfl) ?_))))
      refine al_skip rfl rfl rfl (al_skip rfl rfl rfl (al_skip rfl rfl rfl (al_skip rfl rfl rfl (al_p (q_pickF rfl rfl) ?_))))
      refine al_p (q_assign rfl) (al_end (aq_then ?_))
      refine ac_ret (ret1 Tryz.results9 rfl (fun w9 hs => ?_))
      first | exact ⟨false, rfl, (fun h => by cases h), hs.below⟩ | exact ⟨_, rfl, (fun h => by have := of_decide_eq_true h; unfold BriefB5; omega), hs.below⟩
  · refine ah_t 0 (fun w9 hs => hs) rfl rfl (by kernel_rfl) (q_fieldAddr 0 rfl Tryz.runUnderlying34 rfl Tryz.sizeOf29 (by decide) rfl) (ah_t 1 (fun w9 hs => hs) rfl rfl (by kernel_rfl) (q_loadSub (i := 0) rfl rfl Tryz.isAgg29 Tryz.sizeOf29 .k0 .k10) ?_)
    refine ah_t 2 (fun w9 hs => hs) rfl rfl (by kernel_rfl) (q_fieldAddr 10 rfl Tryz.runUnderlying34 rfl Tryz.sizeOf32 (by decide) rfl) (ah_t 3 (fun w9 hs => hs) rfl rfl (by kernel_rfl) (q_loadSub (i := 0) rfl rfl Tryz.isAgg32 Tryz.sizeOf32 .k10 .k3) ?_)
    refine ah_two 4 5 rfl rfl  (by kernel_rfl) (fun hok3 hcl3 => ?_) (fun hok3 hcl3 => ?_)
    · refine al_new (fun b => .pointer (some ⟨b, 0, none⟩)) (r_alloc Tryz.zeroValue29 rfl) rfl rfl rfl ?_
      intro b2
      refine al_end (ah_back hok3 hcl3 (fun w9 hs => (hs.tail 1 rfl)) ?_)
      refine ah_one 5 rfl (by kernel_rfl) (fun hok4 hcl4 => ?_)
      refine al_new (fun b => .pointer (some ⟨b, 0, none⟩)) (r_alloc Tryz.zeroValue32 rfl) rfl rfl rfl ?_
      intro b3
      refine al_end (ah_back hok4 hcl4 (fun w9 hs => (hs.tail 2 rfl)) ?_)
      exact ah_to (hS1_0 b2 b3) rfl (by kernel_rfl) ⟨rfl, rfl, rfl, rfl, rfl, trivial⟩ (fun w9 hs => hs)
    · refine al_new (fun b => .pointer (some ⟨b, 0, none⟩)) (r_alloc Tryz.zeroValue32 rfl) rfl rfl rfl ?_
      intro b4
      refine al_end (ah_back hok3 hcl3 (fun w9 hs => (hs.tail 1 rfl)) ?_)
      refine ah_one 4 rfl (by kernel_rfl) (fun hok5 hcl5 => ?_)
      refine al_new (fun b => .pointer (some ⟨b, 0, none⟩)) (r_alloc Tryz.zeroValue29 rfl) rfl rfl rfl ?_
      intro b5
      refine al_end (ah_back hok5 hcl5 (fun w9 hs => (hs.tail 2 rfl)) ?_)
      exact ah_to (hS1_0 b5 b4) rfl (by kernel_rfl) ⟨rfl, rfl, rfl, rfl, rfl, trivial⟩ (fun w9 hs => hs.pm (.cons (.there (.here)) (.refl)))
set_option maxRecDepth 100000 in
theorem known5_walk (R : MachR) (M : MachD) (Q : CurR) (C : CurD) (g : Int) (p : PointD) (n : Int) (w : World) (hM0 : R.la ≤ 1000000000000000 → R.lb ≤ 1000000000000000 → R.lc ≤ 1000000000000000 → R.ld ≤ 1000000000000000 → IsM w R M) (hC0 : Q.la ≤ 1000000000000000 → Q.lb ≤ 1000000000000000 → Q.lc ≤ 1000000000000000 → IsC w Q C) : Calls Tryz.prog 3 #[(.agg #[.string M.name, .slice R.A R.la R.ca, .slice R.B R.lb R.cb, .slice R.C R.lc R.cc, .int .i64 M.grid.r, .int .i64 M.grid.z, .int .i64 M.grid.nr, .int .i64 M.grid.nz, .int .i64 M.grid.step, .slice R.D R.ld R.cd, .slice Q.A Q.la Q.ca, .slice Q.B Q.lb Q.cb, .slice Q.C Q.lc Q.cc, .int .i64 g]), (.agg #[.int .i64 p.r, .int .i64 p.z]), (.int .i64 n)] w (Ret (.bool true) w) := by
  refine calls_ax (vs := [(.agg #[.string M.name, .slice R.A R.la R.ca, .slice R.B R.lb R.cb, .slice R.C R.lc R.cc, .int .i64 M.grid.r, .int .i64 M.grid.z, .int .i64 M.grid.nr, .int .i64 M.grid.nz, .int .i64 M.grid.step, .slice R.D R.ld R.cd, .slice Q.A Q.la Q.ca, .slice Q.B Q.lb Q.cb, .slice Q.C Q.lc Q.cc, .int .i64 g]), (.agg #[.int .i64 p.r, .int .i64 p.z]), (.int .i64 n)]) Tryz.func3 rfl rfl ?_
  refine ac_seq (ac_region ?_)
  refine al_new (fun b => .pointer (some ⟨b, 0, none⟩)) (r_box rfl rfl) rfl rfl rfl ?_
  intro b1
  refine al_new (fun b => .pointer (some ⟨b, 0, none⟩)) (r_box rfl rfl) rfl rfl rfl ?_
  intro b2
  refine al_p (q_assign rfl) (al_end (aq_then ?_))
  refine ac_seq (ac_seq (ac_region ?_))
  refine al_p (q_loadAll (i := 1) rfl rfl Tryz.isAgg34 Tryz.sizeOf34 rfl) (al_call Tryz.call9 (.cons rfl .nil) rfl rfl (fun w1 hs1 => ?_))
  refine (brief5_any R M Q g _).mono ?_
  rintro e u1 ⟨bb, rfl, hbb, hb_1⟩
  refine ⟨_, rfl, hb_1, ?_⟩
  clear hs1
  refine al_p (q_not rfl) (al_end (aq_then ?_))
  refine ac_cond rfl (fun h1 => ?_) (fun h1 => ?_)
  · skip
    refine ac_seq (ac_region ?_)
    refine al_call Tryz.call10 .nil rfl rfl (fun w2 hs2 => ?_)
    refine (awake5_any _).mono ?_
    rintro e u2 ⟨rfl, hb_2⟩
    refine ⟨_, rfl, hb_2, ?_⟩
    clear hs2
    refine al_p (q_assign rfl) (al_end (aq_then ?_))
    refine ac_ret (aq_thenR (ret1 Tryz.results3 rfl (fun w9 hs => ?_)))
    exact ⟨rfl, hs.below⟩
  · obtain ⟨u1, u2, u3, u4, u5, u6, u7⟩ := hbb (by simpa using h1)
    have hM := hM0 (by omega) (by omega) (by omega) (by omega)
    have hC := hC0 (by omega) (by omega) (by omega)
    refine ac_skip (aq_then (ac_seq (ac_region ?_)))
    refine al_p (q_fieldAddr 0 rfl Tryz.runUnderlying34 rfl Tryz.sizeOf29 (by decide) rfl) (al_p (q_loadSub (i := 1) rfl rfl Tryz.isAgg29 Tryz.sizeOf29 .k0 .k10) ?_)
    refine al_p (q_fieldAddr 10 rfl Tryz.runUnderlying34 rfl Tryz.sizeOf32 (by decide) rfl) (al_p (q_loadSub (i := 1) rfl rfl Tryz.isAgg32 Tryz.sizeOf32 .k10 .k3) (al_p (q_loadAll (i := 0) rfl rfl Tryz.isAgg36 Tryz.sizeOf36 rfl) (al_call Tryz.call11 (.cons rfl (.cons rfl (.cons rfl .nil))) rfl rfl (fun w3 hs3 => ?_))))
    refine (known5_any R M Q C _ (hM.below hs3.below) (hC.below hs3.below) p).mono ?_
    rintro e u3 ⟨rfl, hb_3⟩
    refine ⟨_, rfl, hb_3, ?_⟩
    clear hs3
    refine al_p (q_move rfl) (al_p (q_extract rfl rfl) (al_p (q_extract rfl rfl) (al_p (q_assign rfl) (al_p (q_assign rfl) ?_))))
    refine al_end (aq_then ?_)
    refine ac_seq (ac_region ?_)
    refine al_p (q_fieldAddr 0 rfl Tryz.runUnderlying34 rfl Tryz.sizeOf29 (by decide) rfl) (al_p (q_loadSub (i := 1) rfl rfl Tryz.isAgg29 Tryz.sizeOf29 .k0 .k10) ?_)
    refine al_p (q_fieldAddr 10 rfl Tryz.runUnderlying34 rfl Tryz.sizeOf32 (by decide) rfl) (al_p (q_loadSub (i := 1) rfl rfl Tryz.isAgg32 Tryz.sizeOf32 .k10 .k3) (al_p (q_loadAll (i := 0) rfl rfl Tryz.isAgg36 Tryz.sizeOf36 rfl) (al_call Tryz.call12 (.cons rfl (.cons rfl (.cons rfl .nil))) rfl rfl (fun w4 hs4 => ?_))))
    refine (rKnown_any R M Q C _ (hM.below hs4.below) (hC.below hs4.below) p).mono ?_
    rintro e u4 ⟨rfl, hb_4⟩
    refine ⟨_, rfl, hb_4, ?_⟩
    clear hs4
    refine al_p (q_move rfl) (al_p (q_extract rfl rfl) (al_p (q_extract rfl rfl) (al_p (q_assign rfl) (al_p (q_assign rfl) ?_))))
    refine al_end (aq_then ?_)
    refine ac_seq (ac_draw 22 (by kernel_rfl) (by kernel_rfl) ?_)
    refine ah_t 0 (fun w9 hs => hs) rfl rfl (by kernel_rfl) (q_move rfl) (ah_t 1 (fun w9 hs => hs) rfl rfl (by kernel_rfl) (q_move rfl) ?_)
    refine ah_t 2 (fun w9 hs => hs) rfl rfl (by kernel_rfl) (q_same (v' := .bool true) (q_eql rfl rfl) (by simp)) (ah_t 3 (fun w9 hs => hs) rfl rfl (by kernel_rfl) (q_move rfl) (ah_t 4 (fun w9 hs => hs) rfl rfl (by kernel_rfl) (q_move rfl) (ah_t 5 (fun w9 hs => hs) rfl rfl (by kernel_rfl) (q_move rfl) ?_)))
    refine ah_t 6 (fun w9 hs => hs) rfl rfl (by kernel_rfl) (q_same (v' := .bool true) (q_eql rfl rfl) (by simp)) (ah_t 7 (fun w9 hs => hs) rfl rfl (by kernel_rfl) (q_pickT rfl rfl) (ah_t 8 (fun w9 hs => hs) rfl rfl (by kernel_rfl) (q_move rfl) (ah_t 9 (fun w9 hs => hs) rfl rfl (by kernel_rfl) (q_move rfl) ?_)))
    refine ah_t 10 (fun w9 hs => hs) rfl rfl (by kernel_rfl) (q_fieldAddr 13 rfl Tryz.runUnderlying34 rfl Tryz.sizeOf3 (by decide) rfl) (ah_t 11 (fun w9 hs => hs) rfl rfl (by kernel_rfl) (q_load (i := 1) rfl rfl rfl Tryz.isAgg3) (ah_t 13 (fun w9 hs => hs) rfl rfl (by kernel_rfl) (q_move rfl) ?_))
    refine ah_t 14 (fun w9 hs => hs) rfl rfl (by kernel_rfl) (q_fieldAddr 13 rfl Tryz.runUnderlying34 rfl Tryz.sizeOf3 (by decide) rfl) (ah_t 15 (fun w9 hs => hs) rfl rfl (by kernel_rfl) (q_load (i := 1) rfl rfl rfl Tryz.isAgg3) (ah_one 12 rfl (by kernel_rfl) (fun hok1 hcl1 => ?_)))
    refine al_call Tryz.call14 (.cons rfl (.cons rfl .nil)) rfl rfl (fun w5 hs5 => ?_)
    refine (even_any n g _).mono ?_
    rintro e u5 ⟨A_a, n_a, c_a, rfl, N_a, hb_5⟩
    refine ⟨_, rfl, hb_5, ?_⟩
    clear hs5
    refine al_end (ah_back hok1 hcl1 (fun w9 hs => (hs.fewer 1 rfl)) ?_)
    refine ah_one 16 rfl (by kernel_rfl) (fun hok2 hcl2 => ?_)
    refine al_call Tryz.call15 (.cons rfl (.cons rfl .nil)) rfl rfl (fun w6 hs6 => ?_)
    refine (rEven_any n g _).mono ?_
    rintro e u6 ⟨A_b, n_b, c_b, rfl, N_b, hb_6⟩
    refine ⟨_, rfl, hb_6, ?_⟩
    clear hs6
    refine al_end (ah_back hok2 hcl2 (fun w9 hs => (hs.fewer 2 rfl)) ?_)
    refine ah_one 17 rfl (by kernel_rfl) (fun hok3 hcl3 => ?_)
    refine al_call Tryz.call13 (.cons rfl (.cons rfl .nil)) rfl rfl (fun w7 hs7 => ?_)
    refine (same5 A_a A_b n_a c_a n_b c_b (evL n g) _ (hs7.newT (.tail _ (.head _)) N_a) (hs7.newT (.head _) N_b) (by have := evL_len n g; omega)).mono ?_
    rintro e u7 ⟨rfl, hb_7⟩
    refine ⟨_, rfl, hb_7, ?_⟩
    clear hs7
    refine al_end (ah_back hok3 hcl3 (fun w9 hs => (hs.fewer 3 rfl)) ?_)
    refine ah_t 18 (fun w9 hs => (hs.fewer 3 rfl)) rfl rfl (by kernel_rfl) (q_pickT rfl rfl) (ah_t 19 (fun w9 hs => (hs.fewer 3 rfl)) rfl rfl (by kernel_rfl) (q_move rfl) (ah_one 20 rfl (by kernel_rfl) (fun hok4 hcl4 => ?_)))
    refine al_call Tryz.call10 .nil rfl rfl (fun w8 hs8 => ?_)
    refine (awake5_any _).mono ?_
    rintro e u8 ⟨rfl, hb_8⟩
    refine ⟨_, rfl, hb_8, ?_⟩
    clear hs8
    refine al_end (ah_back hok4 hcl4 (fun w9 hs => (hs.fewer 4 rfl)) ?_)
    refine ah_t 21 (fun w9 hs => (hs.fewer 4 rfl)) rfl rfl (by kernel_rfl) (q_pickT rfl rfl) (ah_one 22 rfl (by kernel_rfl) (fun hok5 hcl5 => ?_))
    refine al_p (q_assign rfl) (al_end (ah_last (by kernel_rfl) ?_))
    refine aq_then (ac_ret (ret1 Tryz.results3 rfl (fun w9 hs => ?_)))
    exact ⟨rfl, hs.below⟩
end
section
set_option maxRecDepth 100000
open Go.ChangeShapes Go.WideShapes Go.ChangeAt Go.RowKit Go.Joins
theorem own : ownKnob Tryz.prog.godebug = none := by kernel_rfl
theorem cells_int : Tryz.prog.cellsOf 3 = 1 := by kernel_rfl
section
variable {H : Type} {enc : TypeId × Value → H}
end
end
section
set_option maxRecDepth 100000
open Go.ChangeShapes Go.WideShapes Go.ChangeAt Go.RowKit Go.Joins Go.Deep
section
variable {H : Type} {enc : TypeId × Value → H}
theorem open_isT {α : Type} {E : α → List Value} {n : Nat} (h0 : ∀ x, (E x).length = n) {t e : TypeId} {W : World} {b0 : Nat} {r : Reach} {v : Value} {d : DataW H} {p : List MemPlace}
    (ht : Tryz.prog.underlying t = some (.slice e)) (hc : Tryz.prog.cellsOf e = n) (hn : 0 < n)
    (dec : ∀ (fuel : Nat) (cs : List Value) (y : DataW H × List MemPlace), DataW.trod enc Tryz.prog W 0 (fun _ => true) true fuel e cs = some y → ∃ x : α, cs = E x)
    (hv : Value.okWide Tryz.prog W r b0 t v) (h : DataW.Trod enc Tryz.prog W 0 (fun _ => true) true t v d p) :
    ∃ (A : Option Addr) (len cap : Nat) (zs : List α), v = .slice A len cap ∧ IsT n E W A len zs ∧ len ≤ maxLen ∧ len ≤ cap ∧ cap ≤ maxLen := by
  obtain ⟨a, len, cap, rfl⟩ := okWide_slice ht hv
  obtain ⟨fuel, hf⟩ := h
  rcases open_slice ht hf with ⟨hcs, hx⟩ | ⟨a', len', cap', m, k, D, Pl, hcs, hb, hl, hm, hmm, hx, hi⟩
  · have hcs : [Value.slice a len cap] = [Value.slice none 0 0] := hcs
    injection hcs with hcs _
    injection hcs with e1 e2 e3
    subst e1 e2 e3
    exact ⟨_, _, _, [], rfl, IsT.nil _ _ _ _, Nat.zero_le _, Nat.zero_le _, Nat.zero_le _⟩
  · have hcs : [Value.slice a len cap] = [Value.slice (some a') len' cap'] := hcs
    injection hcs with hcs _
    injection hcs with e1 e2 e3
    subst e1 e2 e3
    simp only [if_true] at hmm
    subst hmm
    have each : ∀ i, i < len → ∃ x : α, ∀ j, j < n → W.cell? (a'.add (i * n + j)) = (E x)[j]? := fun i hil => by
      obtain ⟨cs', h1, h2⟩ := hi i (by omega)
      obtain ⟨x, rfl⟩ := dec _ _ _ h2
      rw [hc] at h1
      obtain ⟨_, _, hcell⟩ := World.cells?_some h1
      refine ⟨x, fun j hj => ?_⟩
      have := hcell j hj
      rwa [add_add] at this
    by_cases hz : len = 0
    · subst hz
      exact ⟨_, _, _, [], rfl, IsT.nil _ _ _ _, Nat.zero_le _, Nat.zero_le _, hm⟩
    · obtain ⟨x0, _⟩ := each 0 (by omega)
      haveI : Inhabited α := ⟨x0⟩
      obtain ⟨z, hz'⟩ := choose_lt each
      refine ⟨_, _, _, (List.range len).map z, rfl, ⟨by simp, fun _ => ?_⟩, Nat.le_trans hl hm, hl, hm⟩
      have c0 := hz' 0 (by omega) 0 hn
      obtain ⟨v0, hv0⟩ : ∃ v0, (E (z 0))[0]? = some v0 := ⟨_, List.getElem?_eq_getElem (by rw [h0]; exact hn)⟩
      rw [hv0] at c0
      have hlt := World.block_lt_of_cell? W _ c0
      have hsp := World.cell?_spot c0
      obtain ⟨b, off, spot⟩ := a'
      have hspot : spot = none := by simpa [Addr.add] using hsp
      subst hspot
      rw [block_add] at hlt
      refine ⟨b, off, rfl, hlt, fun j x hx i v hv => ?_⟩
      have hj : j < len := by
        have := (List.getElem?_eq_some_iff.1 hx).1
        simpa using this
      have hx' : x = z j := by
        rw [List.getElem?_map, List.getElem?_range hj] at hx
        simpa using hx.symm
      subst hx'
      have hin : i < n := by
        have := (List.getElem?_eq_some_iff.1 hv).1
        rwa [h0] at this
      have := hz' j hj i hin
      rw [add_plain, hv] at this
      rw [← this]
      congr 2
      omega
end
end
section
set_option maxRecDepth 100000
open Go.ChangeShapes Go.WideShapes Go.ChangeAt Go.RowKit Go.Joins Go.Deep
theorem cells_string : Tryz.prog.cellsOf 9 = 1 := by kernel_rfl
section
variable {H : Type} {enc : TypeId × Value → H}
theorem open_isTc {α : Type} {E : α → List Value} {n : Nat} (h0 : ∀ x, (E x).length = n) {t e : TypeId} {W : World} {fuel : Nat} {cs : List Value} {y : DataW H × List MemPlace}
    (ht : Tryz.prog.underlying t = some (.slice e)) (hc : Tryz.prog.cellsOf e = n) (hn : 0 < n)
    (dec : ∀ (fuel : Nat) (cs : List Value) (y : DataW H × List MemPlace), DataW.trod enc Tryz.prog W 0 (fun _ => true) true fuel e cs = some y → ∃ x : α, cs = E x)
    (hf : DataW.trod enc Tryz.prog W 0 (fun _ => true) true fuel t cs = some y) :
    ∃ (A : Option Addr) (len cap : Nat) (zs : List α), cs = [.slice A len cap] ∧ IsT n E W A len zs ∧ len ≤ cap ∧ cap ≤ maxLen := by
  rcases open_slice ht hf with ⟨hcs, hx⟩ | ⟨a', len, cap, m, k, D, Pl, hcs, hb, hl, hm, hmm, hx, hi⟩
  · exact ⟨_, _, _, [], hcs, IsT.nil _ _ _ _, Nat.zero_le _, Nat.zero_le _⟩
  · simp only [if_true] at hmm
    subst hmm
    subst hcs
    have each : ∀ i, i < len → ∃ x : α, ∀ j, j < n → W.cell? (a'.add (i * n + j)) = (E x)[j]? := fun i hil => by
      obtain ⟨cs', h1, h2⟩ := hi i (by omega)
      obtain ⟨x, rfl⟩ := dec _ _ _ h2
      rw [hc] at h1
      obtain ⟨_, _, hcell⟩ := World.cells?_some h1
      refine ⟨x, fun j hj => ?_⟩
      have := hcell j hj
      rwa [add_add] at this
    by_cases hz : len = 0
    · subst hz
      exact ⟨_, _, _, [], rfl, IsT.nil _ _ _ _, Nat.zero_le _, hm⟩
    · obtain ⟨x0, _⟩ := each 0 (by omega)
      haveI : Inhabited α := ⟨x0⟩
      obtain ⟨z, hz'⟩ := choose_lt each
      refine ⟨_, _, _, (List.range len).map z, rfl, ⟨by simp, fun _ => ?_⟩, hl, hm⟩
      have c0 := hz' 0 (by omega) 0 hn
      obtain ⟨v0, hv0⟩ : ∃ v0, (E (z 0))[0]? = some v0 := ⟨_, List.getElem?_eq_getElem (by rw [h0]; exact hn)⟩
      rw [hv0] at c0
      have hlt := World.block_lt_of_cell? W _ c0
      have hsp := World.cell?_spot c0
      obtain ⟨b, off, spot⟩ := a'
      have hspot : spot = none := by simpa [Addr.add] using hsp
      subst hspot
      rw [block_add] at hlt
      refine ⟨b, off, rfl, hlt, fun j x hx i v hv => ?_⟩
      have hj : j < len := by
        have := (List.getElem?_eq_some_iff.1 hx).1
        simpa using this
      have hx' : x = z j := by
        rw [List.getElem?_map, List.getElem?_range hj] at hx
        simpa using hx.symm
      subst hx'
      have hin : i < n := by
        have := (List.getElem?_eq_some_iff.1 hv).1
        rwa [h0] at this
      have := hz' j hj i hin
      rw [add_plain, hv] at this
      rw [← this]
      congr 2
      omega
theorem dec_Coil {W : World} {base : Nat} {spare : Nat → Bool} {held : Bool} (fuel : Nat) (cs : List Value) (y : DataW H × List MemPlace)
    (h : DataW.trod enc Tryz.prog W base spare held fuel 164 cs = some y) : ∃ x : CoilD, cs = x.cells := by
  obtain ⟨xs, n, -, -, hl, hlen, hf⟩ := DataW.trod_struct Tryz.underlying164 h
  rw [show Tryz.prog.cellsOf 164 = 8 by kernel_rfl] at hl
  match xs, hlen with
  | [y0, y1, y2, y3, y4, y5, y6, y7], _ =>
    match cs, hl with
    | [c0, c1, c2, c3, c4, c5, c6, c7], _ =>
      obtain ⟨a0, e0, -, -⟩ := DataW.trod_string Tryz.underlying9 ((hf 0 _ rfl).trans (rfl : _ = some y0))
      obtain ⟨a1, e1, -, -⟩ := DataW.trod_int Tryz.underlying3 ((hf 1 _ rfl).trans (rfl : _ = some y1))
      obtain ⟨a2, e2, -, -⟩ := DataW.trod_int Tryz.underlying3 ((hf 2 _ rfl).trans (rfl : _ = some y2))
      obtain ⟨a3, e3, -, -⟩ := DataW.trod_int Tryz.underlying3 ((hf 3 _ rfl).trans (rfl : _ = some y3))
      obtain ⟨a4, e4, -, -⟩ := DataW.trod_int Tryz.underlying3 ((hf 4 _ rfl).trans (rfl : _ = some y4))
      obtain ⟨a5, e5, -, -⟩ := DataW.trod_int Tryz.underlying3 ((hf 5 _ rfl).trans (rfl : _ = some y5))
      obtain ⟨a6, e6, -, -⟩ := DataW.trod_int Tryz.underlying3 ((hf 6 _ rfl).trans (rfl : _ = some y6))
      obtain ⟨a7, e7, -, -⟩ := DataW.trod_int Tryz.underlying3 ((hf 7 _ rfl).trans (rfl : _ = some y7))
      simp [cells_int, cells_string] at e0
      simp [cells_int, cells_string] at e1
      simp [cells_int, cells_string] at e2
      simp [cells_int, cells_string] at e3
      simp [cells_int, cells_string] at e4
      simp [cells_int, cells_string] at e5
      simp [cells_int, cells_string] at e6
      simp [cells_int, cells_string] at e7
      subst e0 e1 e2 e3 e4 e5 e6 e7
      exact ⟨⟨a0, a1, a2, a3, a4, a5, a6, a7⟩, rfl⟩
theorem dec_Shell {W : World} {base : Nat} {spare : Nat → Bool} {held : Bool} (fuel : Nat) (cs : List Value) (y : DataW H × List MemPlace)
    (h : DataW.trod enc Tryz.prog W base spare held fuel 168 cs = some y) : ∃ x : ShellD, cs = x.cells := by
  obtain ⟨xs, n, -, -, hl, hlen, hf⟩ := DataW.trod_struct Tryz.underlying168 h
  rw [show Tryz.prog.cellsOf 168 = 4 by kernel_rfl] at hl
  match xs, hlen with
  | [y0, y1, y2, y3], _ =>
    match cs, hl with
    | [c0, c1, c2, c3], _ =>
      obtain ⟨a0, e0, -, -⟩ := DataW.trod_int Tryz.underlying3 ((hf 0 _ rfl).trans (rfl : _ = some y0))
      obtain ⟨a1, e1, -, -⟩ := DataW.trod_int Tryz.underlying3 ((hf 1 _ rfl).trans (rfl : _ = some y1))
      obtain ⟨a2, e2, -, -⟩ := DataW.trod_int Tryz.underlying3 ((hf 2 _ rfl).trans (rfl : _ = some y2))
      obtain ⟨a3, e3, -, -⟩ := DataW.trod_int Tryz.underlying3 ((hf 3 _ rfl).trans (rfl : _ = some y3))
      simp [cells_int, cells_string] at e0
      simp [cells_int, cells_string] at e1
      simp [cells_int, cells_string] at e2
      simp [cells_int, cells_string] at e3
      subst e0 e1 e2 e3
      exact ⟨⟨a0, a1, a2, a3⟩, rfl⟩
theorem dec_Point {W : World} {base : Nat} {spare : Nat → Bool} {held : Bool} (fuel : Nat) (cs : List Value) (y : DataW H × List MemPlace)
    (h : DataW.trod enc Tryz.prog W base spare held fuel 36 cs = some y) : ∃ x : PointD, cs = x.cells := by
  obtain ⟨xs, n, -, -, hl, hlen, hf⟩ := DataW.trod_struct Tryz.underlying36 h
  rw [show Tryz.prog.cellsOf 36 = 2 by kernel_rfl] at hl
  match xs, hlen with
  | [y0, y1], _ =>
    match cs, hl with
    | [c0, c1], _ =>
      obtain ⟨a0, e0, -, -⟩ := DataW.trod_int Tryz.underlying3 ((hf 0 _ rfl).trans (rfl : _ = some y0))
      obtain ⟨a1, e1, -, -⟩ := DataW.trod_int Tryz.underlying3 ((hf 1 _ rfl).trans (rfl : _ = some y1))
      simp [cells_int, cells_string] at e0
      simp [cells_int, cells_string] at e1
      subst e0 e1
      exact ⟨⟨a0, a1⟩, rfl⟩
theorem dec_Sensor {W : World} {base : Nat} {spare : Nat → Bool} {held : Bool} (fuel : Nat) (cs : List Value) (y : DataW H × List MemPlace)
    (h : DataW.trod enc Tryz.prog W base spare held fuel 174 cs = some y) : ∃ x : SensorD, cs = x.cells := by
  obtain ⟨xs, n, -, -, hl, hlen, hf⟩ := DataW.trod_struct Tryz.underlying174 h
  rw [show Tryz.prog.cellsOf 174 = 5 by kernel_rfl] at hl
  match xs, hlen with
  | [y0, y1, y2, y3, y4], _ =>
    match cs, hl with
    | [c0, c1, c2, c3, c4], _ =>
      obtain ⟨a0, e0, -, -⟩ := DataW.trod_string Tryz.underlying9 ((hf 0 _ rfl).trans (rfl : _ = some y0))
      obtain ⟨a1, e1, -, -⟩ := DataW.trod_int Tryz.underlying3 ((hf 1 _ rfl).trans (rfl : _ = some y1))
      obtain ⟨a2, e2, -, -⟩ := DataW.trod_int Tryz.underlying3 ((hf 2 _ rfl).trans (rfl : _ = some y2))
      obtain ⟨a3, e3, -, -⟩ := DataW.trod_int Tryz.underlying3 ((hf 3 _ rfl).trans (rfl : _ = some y3))
      obtain ⟨a4, e4, -, -⟩ := DataW.trod_int Tryz.underlying3 ((hf 4 _ rfl).trans (rfl : _ = some y4))
      simp [cells_int, cells_string] at e0
      simp [cells_int, cells_string] at e1
      simp [cells_int, cells_string] at e2
      simp [cells_int, cells_string] at e3
      simp [cells_int, cells_string] at e4
      subst e0 e1 e2 e3 e4
      exact ⟨⟨a0, a1, a2, a3, a4⟩, rfl⟩
structure OpM (w : World) (R : MachR) (M : MachD) : Prop where
  coils : IsT 8 CoilD.cells w R.A R.la M.coils
  shells : IsT 4 ShellD.cells w R.B R.lb M.shells
  limits : IsT 2 PointD.cells w R.C R.lc M.limits
  sensors : IsT 5 SensorD.cells w R.D R.ld M.sensors
  la : R.la ≤ R.ca
  lb : R.lb ≤ R.cb
  lc : R.lc ≤ R.cc
  ld : R.ld ≤ R.cd
  ca : R.ca ≤ 9223372036854775807
  cb : R.cb ≤ 9223372036854775807
  cc : R.cc ≤ 9223372036854775807
  cd : R.cd ≤ 9223372036854775807
theorem OpM.isM {w : World} {R : MachR} {M : MachD} (h : OpM w R M) (ka : R.la ≤ 1000000000000000) (kb : R.lb ≤ 1000000000000000) (kc : R.lc ≤ 1000000000000000) (kd : R.ld ≤ 1000000000000000) : IsM w R M :=
  ⟨h.coils, h.shells, h.limits, h.sensors, h.la, h.lb, h.lc, h.ld, h.ca, h.cb, h.cc, h.cd, ka, kb, kc, kd⟩
end
end
section
set_option maxRecDepth 100000
open Go.ChangeShapes Go.WideShapes Go.ChangeAt Go.RowKit Go.Joins Go.Deep
section
variable {H : Type} {enc : TypeId × Value → H}
theorem dec_intI {W : World} {base : Nat} {spare : Nat → Bool} {held : Bool} (fuel : Nat) (cs : List Value) (y : DataW H × List MemPlace)
    (h : DataW.trod enc Tryz.prog W base spare held fuel 3 cs = some y) : ∃ x : Int, cs = intCells x := by
  obtain ⟨a, e, _, _⟩ := DataW.trod_int Tryz.underlying3 h
  exact ⟨a, e⟩
structure OpC (w : World) (Q : CurR) (C : CurD) : Prop where
  coils : IsT 1 intCells w Q.A Q.la C.coils
  shells : IsT 1 intCells w Q.B Q.lb C.shells
  plasma : IsT 1 intCells w Q.C Q.lc C.plasma
  la : Q.la ≤ Q.ca
  lb : Q.lb ≤ Q.cb
  lc : Q.lc ≤ Q.cc
  ca : Q.ca ≤ 9223372036854775807
  cb : Q.cb ≤ 9223372036854775807
  cc : Q.cc ≤ 9223372036854775807
theorem OpC.isC {w : World} {Q : CurR} {C : CurD} (h : OpC w Q C) (ka : Q.la ≤ 1000000000000000) (kb : Q.lb ≤ 1000000000000000) (kc : Q.lc ≤ 1000000000000000) : IsC w Q C :=
  ⟨h.coils, h.shells, h.plasma, h.la, h.lb, h.lc, h.ca, h.cb, h.cc, ka, kb, kc⟩
end
end
end Go.Proofs.YtogcjgjhmlifgaaGreat
