import Derived.Test.YtcjndnadibbcbaaJBM
import Derived.Test.YtcjndnadibbcbaaRows
import Derived.KernelRfl
import Derived.Laws.StructEq
section
/- The law CircuitSettles, over this seat's translation (written by ax_ci17.py). -/
namespace Go.Proofs.Ytcjndnadibbcbaa
set_option linter.unusedVariables false
set_option linter.unusedSimpArgs false
open Go.RowKit

set_option maxRecDepth 100000 in
theorem settles_walk (R : MachR) (M : MachD) (RS : StR) (S : StD) (w : World) (hM0 : R.la ≤ 1000000000000000 → R.lb ≤ 1000000000000000 → R.lc ≤ 1000000000000000 → R.ld ≤ 1000000000000000 → IsM w R M) (hS0 : RS.Q.la ≤ 1000000000000000 → RS.Q.lb ≤ 1000000000000000 → RS.Q.lc ≤ 1000000000000000 → RS.lh ≤ 1000000000000000 → IsS w RS S) : Calls Try.prog 7 #[(.agg (machCells R M)), (RS.v S.tick)] w (Ret (.bool true) w) := by
  refine calls_ax (vs := [(.agg (machCells R M)), (RS.v S.tick)]) Try.func7 rfl rfl ?_
  refine ac_seq ?_
  refine ac_region ?_
  refine al_new (fun b => .pointer (some ⟨b, 0, none⟩)) (r_box rfl rfl) rfl rfl rfl ?_
  intro b1
  refine al_new (fun b => .pointer (some ⟨b, 0, none⟩)) (r_box rfl rfl) rfl rfl rfl ?_
  intro b2
  refine al_q (q_assign rfl) rfl rfl rfl ?_
  refine al_end ?_
  refine aq_then ?_
  refine ac_seq ?_
  refine ac_seq ?_
  refine ac_region ?_
  refine al_q (q_loadAll (i := 1) rfl rfl Try.isAgg29 Try.sizeOf29 rfl) rfl rfl rfl ?_
  refine al_q (q_loadAll (i := 0) rfl rfl Try.isAgg35 Try.sizeOf35 rfl) rfl rfl rfl ?_
  refine al_call Try.call9 (.cons rfl (.cons rfl .nil)) rfl rfl (fun w1 hs1 => ?_)
  refine (brief3_any R M RS S _).mono ?_
  rintro e u1 ⟨bb, rfl, hbb, hb_1⟩
  refine ⟨_, rfl, hb_1, ?_⟩
  clear hs1
  refine al_q (q_not rfl) rfl rfl rfl ?_
  refine al_end ?_
  refine aq_then ?_
  refine ac_cond rfl (fun h1 => ?_) (fun h1 => ?_)
  · skip
    refine ac_seq ?_
    refine ac_region ?_
    refine al_call Try.call10 .nil rfl rfl (fun w2 hs2 => ?_)
    refine (awake3_any _).mono ?_
    rintro e u2 ⟨rfl, hb_2⟩
    refine ⟨_, rfl, hb_2, ?_⟩
    clear hs2
    refine al_q (q_assign rfl) rfl rfl rfl ?_
    refine al_end ?_
    refine aq_then ?_
    refine ac_ret ?_
    refine aq_thenR ?_
    refine ret1 Try.results7 rfl (fun w9 hs => ?_)
    exact ⟨rfl, hs.below⟩
  · have hB := hbb (by simpa using h1)
    obtain ⟨⟨m1, m2, m3, m4⟩, m5, m6, m7, m8⟩ := hB
    have hM := hM0 (by omega) (by omega) (by omega) (by omega)
    have hS := hS0 (by omega) (by omega) (by omega) (by omega)
    refine ac_skip ?_
    refine aq_then ?_
    refine ac_seq ?_
    refine ac_region ?_
    refine al_q (q_loadAll (i := 1) rfl rfl Try.isAgg29 Try.sizeOf29 rfl) rfl rfl rfl ?_
    refine al_q (q_loadAll (i := 0) rfl rfl Try.isAgg35 Try.sizeOf35 rfl) rfl rfl rfl ?_
    refine al_call Try.call23 (.cons rfl (.cons rfl .nil)) rfl rfl (fun w3 hs3 => ?_)
    refine (csettle_any R M RS S _ (hM.below hs3.below) (hS.below hs3.below)).mono ?_
    rintro e u3 ⟨rfl, hb_3⟩
    refine ⟨_, rfl, hb_3, ?_⟩
    clear hs3
    refine al_q (q_move rfl) rfl rfl rfl ?_
    refine al_q (q_extract rfl rfl) rfl rfl rfl ?_
    refine al_q (q_extract rfl rfl) rfl rfl rfl ?_
    refine al_q (q_assign rfl) rfl rfl rfl ?_
    refine al_q (q_assign rfl) rfl rfl rfl ?_
    refine al_end ?_
    refine aq_then ?_
    refine ac_seq ?_
    refine ac_region ?_
    refine al_q (q_loadAll (i := 1) rfl rfl Try.isAgg29 Try.sizeOf29 rfl) rfl rfl rfl ?_
    refine al_q (q_loadAll (i := 0) rfl rfl Try.isAgg35 Try.sizeOf35 rfl) rfl rfl rfl ?_
    refine al_call Try.call24 (.cons rfl (.cons rfl .nil)) rfl rfl (fun w4 hs4 => ?_)
    refine (rsettle_any R M RS S _ (hM.below hs4.below) (hS.below hs4.below)).mono ?_
    rintro e u4 ⟨rfl, hb_4⟩
    refine ⟨_, rfl, hb_4, ?_⟩
    clear hs4
    refine al_q (q_move rfl) rfl rfl rfl ?_
    refine al_q (q_extract rfl rfl) rfl rfl rfl ?_
    refine al_q (q_extract rfl rfl) rfl rfl rfl ?_
    refine al_q (q_assign rfl) rfl rfl rfl ?_
    refine al_q (q_assign rfl) rfl rfl rfl ?_
    refine al_end ?_
    refine aq_then ?_
    refine ac_seq ?_
    refine ac_seq ?_
    refine ac_region ?_
    refine al_q (q_move rfl) rfl rfl rfl ?_
    refine al_q (q_move rfl) rfl rfl rfl ?_
    refine al_q (q_same (v' := .bool false) (q_neq rfl rfl) (by simp)) rfl rfl rfl ?_
    refine al_q (q_move rfl) rfl rfl rfl ?_
    refine al_q (q_move rfl) rfl rfl rfl ?_
    refine al_q (q_move rfl) rfl rfl rfl ?_
    refine al_q (q_same (v' := .bool false) (q_neq rfl rfl) (by simp)) rfl rfl rfl ?_
    refine al_q (q_pickF rfl rfl) rfl rfl rfl ?_
    refine al_end ?_
    refine aq_then ?_
    refine ac_condF rfl ?_
    refine ac_skip ?_
    refine aq_then ?_
    refine ac_seq ?_
    refine ac_seq ?_
    refine ac_region ?_
    refine al_q (q_move rfl) rfl rfl rfl ?_
    refine al_q (q_neq rfl rfl) rfl rfl rfl ?_
    refine al_q (q_move rfl) rfl rfl rfl ?_
    refine aq_split 37 rfl (fun hb1 => ?_) (fun hb1 => ?_)
    · skip
      refine al_skip rfl rfl rfl ?_
      refine al_skip rfl rfl rfl ?_
      refine al_q (q_pickT rfl rfl) rfl rfl rfl ?_
      refine al_end ?_
      refine aq_then ?_
      refine ac_condT rfl ?_
      refine ac_seq ?_
      refine ac_region ?_
      refine al_call Try.call10 .nil rfl rfl (fun w5 hs5 => ?_)
      refine (awake3_any _).mono ?_
      rintro e u5 ⟨rfl, hb_5⟩
      refine ⟨_, rfl, hb_5, ?_⟩
      clear hs5
      refine al_q (q_assign rfl) rfl rfl rfl ?_
      refine al_end ?_
      refine aq_then ?_
      refine ac_ret ?_
      refine aq_thenR ?_
      refine ret1 Try.results7 rfl (fun w9 hs => ?_)
      exact ⟨rfl, hs.below⟩
    · have hE : (settleL M S).2 = 0 := by simpa using hb1
      obtain ⟨hf, hmx⟩ := settle_ok hE
      have n1 := hM.coils.1
      have n2 := hM.shells.1
      have n5 := (sound_of hf.cur.check).coils.1
      have n6 := (sound_of hf.cur.check).shells.1
      have hbd := maxTo_bd (f := setA M S) (B := 1000000) (by omega) M.shells.length (fun k hk => by have h1 := setI_bd (loss := (sA M k).loss) (c := iA S.C.shells k); have h2 := hf.cur.shells.2 _ (iA_mem (l := S.C.shells) (k := k) (by rw [hf.cur.shells.1]; exact hk)); unfold setA; omega)
      have hyes : ∀ j, j < M.shells.length → setA M S j ≤ (settleL M S).1 := fun j hj => by rw [hmx]; exact maxTo_ge _ hj
      refine al_q (q_move rfl) rfl rfl rfl ?_
      refine al_q (q_gtr rfl rfl) rfl rfl rfl ?_
      refine al_q (q_pickF rfl rfl) rfl rfl rfl ?_
      refine al_end ?_
      refine aq_then ?_
      refine ac_cond rfl (fun h2 => ?_) (fun h2 => ?_)
      · skip
        refine ac_seq ?_
        refine ac_region ?_
        refine al_call Try.call10 .nil rfl rfl (fun w6 hs6 => ?_)
        refine (awake3_any _).mono ?_
        rintro e u6 ⟨rfl, hb_6⟩
        refine ⟨_, rfl, hb_6, ?_⟩
        clear hs6
        refine al_q (q_assign rfl) rfl rfl rfl ?_
        refine al_end ?_
        refine aq_then ?_
        refine ac_ret ?_
        refine aq_thenR ?_
        refine ret1 Try.results7 rfl (fun w9 hs => ?_)
        exact ⟨rfl, hs.below⟩
      · have h300 := of_decide_eq_false h2
        have n3 := hS.cur.coils.1
        have n4 := hf.cur.coils.1
        refine ac_skip ?_
        refine aq_then ?_
        refine ac_seq ?_
        refine ac_seq ?_
        refine ac_region ?_
        refine al_q (q_assign rfl) rfl rfl rfl ?_
        refine al_end ?_
        refine aq_then ?_
        refine ac_block ?_
        refine ac_loop (β := Nat × Boxes) (fun p => p.1 ≤ RS.Q.la ∧ ((p.1 = 0 ∧ p.2 = [(b2, .cells [(.int .i64 S.tick), (.slice RS.Q.A RS.Q.la RS.Q.ca), (.slice RS.Q.B RS.Q.lb RS.Q.cb), (.slice RS.Q.C RS.Q.lc RS.Q.cc), (.slice RS.H RS.lh RS.ch), (.slice RS.T RS.lt RS.ct)]), (b1, .cells [(.string M.name), (.slice (R.A) R.la R.ca), (.slice (R.B) R.lb R.cb), (.slice (R.C) R.lc R.cc), (.int .i64 M.grid.r), (.int .i64 M.grid.z), (.int .i64 M.grid.nr), (.int .i64 M.grid.nz), (.int .i64 M.grid.step), (.slice (R.D) R.ld R.cd)])]) ∨ ∃ bz : Nat, p.2 = [(bz, .cells (List.replicate R.la (.int .i64 0))), (b2, .cells [(.int .i64 S.tick), (.slice (some ⟨bz, 0, none⟩) R.la R.la), (.slice RS.Q.B RS.Q.lb RS.Q.cb), (.slice RS.Q.C RS.Q.lc RS.Q.cc), (.slice RS.H RS.lh RS.ch), (.slice RS.T RS.lt RS.ct)]), (b1, .cells [(.string M.name), (.slice (R.A) R.la R.ca), (.slice (R.B) R.lb R.cb), (.slice (R.C) R.lc R.cc), (.int .i64 M.grid.r), (.int .i64 M.grid.z), (.int .i64 M.grid.nr), (.int .i64 M.grid.nz), (.int .i64 M.grid.step), (.slice (R.D) R.ld R.cd)])])) (fun p => [(2, (.pointer (some ⟨b1, 0, none⟩))), (3, (.pointer (some ⟨b2, 0, none⟩))), (4, (.bool false)), (5, (.int .i64 (settleL M S).1)), (9, (.int .i64 (p.1 : Int)))]) (fun _ => _) (fun p => p.2) (fun p => RS.Q.la - p.1) (0, [(b2, .cells [(.int .i64 S.tick), (.slice RS.Q.A RS.Q.la RS.Q.ca), (.slice RS.Q.B RS.Q.lb RS.Q.cb), (.slice RS.Q.C RS.Q.lc RS.Q.cc), (.slice RS.H RS.lh RS.ch), (.slice RS.T RS.lt RS.ct)]), (b1, .cells [(.string M.name), (.slice (R.A) R.la R.ca), (.slice (R.B) R.lb R.cb), (.slice (R.C) R.lc R.cc), (.int .i64 M.grid.r), (.int .i64 M.grid.z), (.int .i64 M.grid.nr), (.int .i64 M.grid.nz), (.int .i64 M.grid.step), (.slice (R.D) R.ld R.cd)])]) ⟨Nat.zero_le _, Or.inl ⟨rfl, rfl⟩⟩ ⟨rfl, rfl, rfl, rfl, rfl, trivial⟩ (fun w9 hs => hs) (fun p hF1 => ?_)
        rcases hF1.2 with ⟨e0, e1⟩ | ⟨bz, e1⟩
        · rw [e1]
          refine ac_seq ?_
          refine ac_seq ?_
          refine ac_region ?_
          refine al_q (q_move rfl) rfl rfl rfl ?_
          refine al_q (q_fieldAddr 1 rfl Try.runUnderlying35 rfl Try.sizeOf32 (by decide) rfl) rfl rfl rfl ?_
          refine al_q (q_fieldAddr 1 rfl Try.runUnderlying32 rfl Try.sizeOf30 (by decide) rfl) rfl rfl rfl ?_
          refine al_q (q_load (i := 0) rfl rfl rfl Try.isAgg30) rfl rfl rfl ?_
          refine al_q (q_lenS rfl Try.runUnderlying30) rfl rfl rfl ?_
          refine al_q (q_lss rfl rfl) rfl rfl rfl ?_
          refine al_end ?_
          refine aq_then ?_
          refine ac_cond rfl (fun h3 => ?_) (fun h3 => ?_)
          · have h3t := of_decide_eq_true h3
            refine ac_skip ?_
            refine aq_then ?_
            refine ac_seq ?_
            refine ac_block ?_
            refine ac_region ?_
            refine al_q (q_fieldAddr 1 rfl Try.runUnderlying29 rfl Try.sizeOf22 (by decide) rfl) rfl rfl rfl ?_
            refine al_q (q_load (i := 1) rfl rfl rfl Try.isAgg22) rfl rfl rfl ?_
            refine al_q (q_lenS rfl Try.runUnderlying22) rfl rfl rfl ?_
            refine al_makeInts (n := R.la) (z := (.int .i64 0)) (bytes := 8) rfl rfl rfl Try.underlying30 (by kernel_rfl) rfl (by omega) (by decide) rfl rfl ?_
            intro b3
            refine al_q (q_fieldAddr 1 rfl Try.runUnderlying35 rfl Try.sizeOf32 (by decide) rfl) rfl rfl rfl ?_
            refine al_q (q_fieldAddr 1 rfl Try.runUnderlying32 rfl Try.sizeOf30 (by decide) rfl) rfl rfl rfl ?_
            refine al_store1 (i := 1) rfl rfl rfl rfl Try.sizeOf30 .k1 .k1 rfl ?_
            refine al_end ?_
            refine aq_inN ?_
            refine aq_then ?_
            refine ac_region ?_
            refine al_q (q_move rfl) rfl rfl rfl ?_
            refine al_q (q_add rfl rfl (by omega)) rfl rfl rfl ?_
            refine al_q (q_assign rfl) rfl rfl rfl ?_
            refine al_end ?_
            refine aq_then ?_
            skip
            refine aq_round ((p.1 + 1, [(b3, .cells (List.replicate R.la (.int .i64 0))), (b2, .cells [(.int .i64 S.tick), (.slice (some ⟨b3, 0, none⟩) R.la R.la), (.slice RS.Q.B RS.Q.lb RS.Q.cb), (.slice RS.Q.C RS.Q.lc RS.Q.cc), (.slice RS.H RS.lh RS.ch), (.slice RS.T RS.lt RS.ct)]), (b1, .cells [(.string M.name), (.slice (R.A) R.la R.ca), (.slice (R.B) R.lb R.cb), (.slice (R.C) R.lc R.cc), (.int .i64 M.grid.r), (.int .i64 M.grid.z), (.int .i64 M.grid.nr), (.int .i64 M.grid.nz), (.int .i64 M.grid.step), (.slice (R.D) R.ld R.cd)])])) (by simp only; omega) ⟨by simp only; omega, Or.inr ⟨b3, rfl⟩⟩ ⟨rfl, rfl, rfl, rfl, rfl, trivial⟩ (fun w9 hs => hs)
          · have h3f := of_decide_eq_false h3
            have hz0 : S.C.coils = zerosI M.coils.length := by
              have e9 : M.coils.length = 0 := by omega
              have e8 : S.C.coils = [] := List.eq_nil_of_length_eq_zero (by omega)
              rw [e8, e9]; rfl
            refine ac_exit ?_
            refine aq_thenE ?_
            refine aq_thenE ?_
            refine aq_hit ?_
            refine aq_then ?_
            refine ac_seq ?_
            refine ac_region ?_
            refine al_q (q_loadAll (i := 1) rfl rfl Try.isAgg29 Try.sizeOf29 rfl) rfl rfl rfl ?_
            refine al_q (q_loadAll (i := 0) rfl rfl Try.isAgg35 Try.sizeOf35 rfl) rfl rfl rfl ?_
            refine al_q (q_move rfl) rfl rfl rfl ?_
            refine al_call Try.call25 (.cons rfl (.cons rfl (.cons rfl .nil))) rfl rfl (fun w7 hs7 => ?_)
            refine (calm_yes R M RS S (settleL M S).1 _ (hM.below hs7.below) (hS.below hs7.below) hf hz0 (by omega) hyes).mono ?_
            rintro e u7 ⟨rfl, hb_7⟩
            refine ⟨_, rfl, hb_7, ?_⟩
            clear hs7
            refine al_q (q_move rfl) rfl rfl rfl ?_
            refine al_q (q_move rfl) rfl rfl rfl ?_
            refine al_q (q_eql rfl rfl) rfl rfl rfl ?_
            refine al_q (q_move rfl) rfl rfl rfl ?_
            refine aq_split 63 rfl (fun hb2 => ?_) (fun hb2 => ?_)
            · skip
              refine al_skip rfl rfl rfl ?_
              refine al_skip rfl rfl rfl ?_
              refine al_skip rfl rfl rfl ?_
              refine al_skip rfl rfl rfl ?_
              refine al_skip rfl rfl rfl ?_
              refine al_skip rfl rfl rfl ?_
              refine al_q (q_pickT rfl rfl) rfl rfl rfl ?_
              refine al_q (q_pickT rfl rfl) rfl rfl rfl ?_
              refine al_q (q_move rfl) rfl rfl rfl ?_
              refine al_call Try.call10 .nil rfl rfl (fun w8 hs8 => ?_)
              refine (awake3_any _).mono ?_
              rintro e u8 ⟨rfl, hb_8⟩
              refine ⟨_, rfl, hb_8, ?_⟩
              clear hs8
              refine al_q (q_pickT rfl rfl) rfl rfl rfl ?_
              refine al_q (q_assign rfl) rfl rfl rfl ?_
              refine al_end ?_
              refine aq_then ?_
              refine aq_keepL [4] (.cons rfl .nil) ?_
              refine ac_ret ?_
              refine ret1 Try.results7 rfl (fun w9 hs => ?_)
              exact ⟨rfl, hs.below⟩
            · have hn0 : (settleL M S).1 ≠ 0 := by simpa using hb2
              have hno : ∃ j, j < M.shells.length ∧ (settleL M S).1 - 1 < setA M S j := by
                rcases maxTo_at (f := setA M S) M.shells.length with e | ⟨k, hk, e⟩
                · omega
                · exact ⟨k, hk, by omega⟩
              refine al_q (q_loadAll (i := 1) rfl rfl Try.isAgg29 Try.sizeOf29 rfl) rfl rfl rfl ?_
              refine al_q (q_loadAll (i := 0) rfl rfl Try.isAgg35 Try.sizeOf35 rfl) rfl rfl rfl ?_
              refine al_q (q_move rfl) rfl rfl rfl ?_
              refine al_q (q_sub rfl rfl (by omega)) rfl rfl rfl ?_
              refine al_call Try.call25 (.cons rfl (.cons rfl (.cons rfl .nil))) rfl rfl (fun w9 hs9 => ?_)
              refine (calm_no R M RS S ((settleL M S).1 - 1) _ (hM.below hs9.below) (hS.below hs9.below) hf hz0 (by omega) hno).mono ?_
              rintro e u9 ⟨rfl, hb_9⟩
              refine ⟨_, rfl, hb_9, ?_⟩
              clear hs9
              refine al_q (q_not rfl) rfl rfl rfl ?_
              refine al_q (q_pickF rfl rfl) rfl rfl rfl ?_
              refine al_q (q_pickT rfl rfl) rfl rfl rfl ?_
              refine al_q (q_move rfl) rfl rfl rfl ?_
              refine al_call Try.call10 .nil rfl rfl (fun w10 hs10 => ?_)
              refine (awake3_any _).mono ?_
              rintro e u10 ⟨rfl, hb_10⟩
              refine ⟨_, rfl, hb_10, ?_⟩
              clear hs10
              refine al_q (q_pickT rfl rfl) rfl rfl rfl ?_
              refine al_q (q_assign rfl) rfl rfl rfl ?_
              refine al_end ?_
              refine aq_then ?_
              refine ac_ret ?_
              refine ret1 Try.results7 rfl (fun w9 hs => ?_)
              exact ⟨rfl, hs.below⟩
        · rw [e1]
          refine ac_seq ?_
          refine ac_seq ?_
          refine ac_region ?_
          refine al_q (q_move rfl) rfl rfl rfl ?_
          refine al_q (q_fieldAddr 1 rfl Try.runUnderlying35 rfl Try.sizeOf32 (by decide) rfl) rfl rfl rfl ?_
          refine al_q (q_fieldAddr 1 rfl Try.runUnderlying32 rfl Try.sizeOf30 (by decide) rfl) rfl rfl rfl ?_
          refine al_q (q_load (i := 1) rfl rfl rfl Try.isAgg30) rfl rfl rfl ?_
          refine al_q (q_lenS rfl Try.runUnderlying30) rfl rfl rfl ?_
          refine al_q (q_lss rfl rfl) rfl rfl rfl ?_
          refine al_end ?_
          refine aq_then ?_
          refine ac_cond rfl (fun h4 => ?_) (fun h4 => ?_)
          · have h3t := of_decide_eq_true h4
            refine ac_skip ?_
            refine aq_then ?_
            refine ac_seq ?_
            refine ac_block ?_
            refine ac_region ?_
            refine al_q (q_fieldAddr 1 rfl Try.runUnderlying29 rfl Try.sizeOf22 (by decide) rfl) rfl rfl rfl ?_
            refine al_q (q_load (i := 2) rfl rfl rfl Try.isAgg22) rfl rfl rfl ?_
            refine al_q (q_lenS rfl Try.runUnderlying22) rfl rfl rfl ?_
            refine al_makeInts (n := R.la) (z := (.int .i64 0)) (bytes := 8) rfl rfl rfl Try.underlying30 (by kernel_rfl) rfl (by omega) (by decide) rfl rfl ?_
            intro b4
            refine al_q (q_fieldAddr 1 rfl Try.runUnderlying35 rfl Try.sizeOf32 (by decide) rfl) rfl rfl rfl ?_
            refine al_q (q_fieldAddr 1 rfl Try.runUnderlying32 rfl Try.sizeOf30 (by decide) rfl) rfl rfl rfl ?_
            refine al_store1 (i := 2) rfl rfl rfl rfl Try.sizeOf30 .k1 .k2 rfl ?_
            refine al_end ?_
            refine aq_inN ?_
            refine aq_then ?_
            refine ac_region ?_
            refine al_q (q_move rfl) rfl rfl rfl ?_
            refine al_q (q_add rfl rfl (by omega)) rfl rfl rfl ?_
            refine al_q (q_assign rfl) rfl rfl rfl ?_
            refine al_end ?_
            refine aq_then ?_
            refine aq_keepB (.keep (.drop (.keep (.keep .nil)))) ?_
            refine aq_round ((p.1 + 1, [(b4, .cells (List.replicate R.la (.int .i64 0))), (b2, .cells [(.int .i64 S.tick), (.slice (some ⟨b4, 0, none⟩) R.la R.la), (.slice RS.Q.B RS.Q.lb RS.Q.cb), (.slice RS.Q.C RS.Q.lc RS.Q.cc), (.slice RS.H RS.lh RS.ch), (.slice RS.T RS.lt RS.ct)]), (b1, .cells [(.string M.name), (.slice (R.A) R.la R.ca), (.slice (R.B) R.lb R.cb), (.slice (R.C) R.lc R.cc), (.int .i64 M.grid.r), (.int .i64 M.grid.z), (.int .i64 M.grid.nr), (.int .i64 M.grid.nz), (.int .i64 M.grid.step), (.slice (R.D) R.ld R.cd)])])) (by simp only; omega) ⟨by simp only; omega, Or.inr ⟨b4, rfl⟩⟩ ⟨rfl, rfl, rfl, rfl, rfl, trivial⟩ (fun w9 hs => hs)
          · skip
            refine ac_exit ?_
            refine aq_thenE ?_
            refine aq_thenE ?_
            refine aq_hit ?_
            refine aq_then ?_
            refine ac_seq ?_
            refine ac_region ?_
            refine al_q (q_loadAll (i := 2) rfl rfl Try.isAgg29 Try.sizeOf29 rfl) rfl rfl rfl ?_
            refine al_q (q_loadAll (i := 1) rfl rfl Try.isAgg35 Try.sizeOf35 rfl) rfl rfl rfl ?_
            refine al_q (q_move rfl) rfl rfl rfl ?_
            refine al_call Try.call25 (.cons rfl (.cons rfl (.cons rfl .nil))) rfl rfl (fun w11 hs11 => ?_)
            refine (calm_yes R M (darkR R RS bz) (dark M S) (settleL M S).1 _ (hM.below hs11.below) (dark_isS (hS.below hs11.below) (isT_box0 (n := 1) (enc := intCells) (fun _ => rfl) (hs11.at 0 rfl) (flatZ R.la) (by simp [zerosI])) n1 (by omega)) hf.dark rfl (by omega) hyes).mono ?_
            rintro e u11 ⟨rfl, hb_11⟩
            refine ⟨_, rfl, hb_11, ?_⟩
            clear hs11
            refine al_q (q_move rfl) rfl rfl rfl ?_
            refine al_q (q_move rfl) rfl rfl rfl ?_
            refine al_q (q_eql rfl rfl) rfl rfl rfl ?_
            refine al_q (q_move rfl) rfl rfl rfl ?_
            refine aq_split 63 rfl (fun hb3 => ?_) (fun hb3 => ?_)
            · skip
              refine al_skip rfl rfl rfl ?_
              refine al_skip rfl rfl rfl ?_
              refine al_skip rfl rfl rfl ?_
              refine al_skip rfl rfl rfl ?_
              refine al_skip rfl rfl rfl ?_
              refine al_skip rfl rfl rfl ?_
              refine al_q (q_pickT rfl rfl) rfl rfl rfl ?_
              refine al_q (q_pickT rfl rfl) rfl rfl rfl ?_
              refine al_q (q_move rfl) rfl rfl rfl ?_
              refine al_call Try.call10 .nil rfl rfl (fun w12 hs12 => ?_)
              refine (awake3_any _).mono ?_
              rintro e u12 ⟨rfl, hb_12⟩
              refine ⟨_, rfl, hb_12, ?_⟩
              clear hs12
              refine al_q (q_pickT rfl rfl) rfl rfl rfl ?_
              refine al_q (q_assign rfl) rfl rfl rfl ?_
              refine al_end ?_
              refine aq_then ?_
              refine ac_ret ?_
              refine ret1 Try.results7 rfl (fun w9 hs => ?_)
              exact ⟨rfl, hs.below⟩
            · have hn0 : (settleL M S).1 ≠ 0 := by simpa using hb3
              have hno : ∃ j, j < M.shells.length ∧ (settleL M S).1 - 1 < setA M S j := by
                rcases maxTo_at (f := setA M S) M.shells.length with e | ⟨k, hk, e⟩
                · omega
                · exact ⟨k, hk, by omega⟩
              refine al_q (q_loadAll (i := 2) rfl rfl Try.isAgg29 Try.sizeOf29 rfl) rfl rfl rfl ?_
              refine al_q (q_loadAll (i := 1) rfl rfl Try.isAgg35 Try.sizeOf35 rfl) rfl rfl rfl ?_
              refine al_q (q_move rfl) rfl rfl rfl ?_
              refine al_q (q_sub rfl rfl (by omega)) rfl rfl rfl ?_
              refine al_call Try.call25 (.cons rfl (.cons rfl (.cons rfl .nil))) rfl rfl (fun w13 hs13 => ?_)
              refine (calm_no R M (darkR R RS bz) (dark M S) ((settleL M S).1 - 1) _ (hM.below hs13.below) (dark_isS (hS.below hs13.below) (isT_box0 (n := 1) (enc := intCells) (fun _ => rfl) (hs13.at 0 rfl) (flatZ R.la) (by simp [zerosI])) n1 (by omega)) hf.dark rfl (by omega) hno).mono ?_
              rintro e u13 ⟨rfl, hb_13⟩
              refine ⟨_, rfl, hb_13, ?_⟩
              clear hs13
              refine al_q (q_not rfl) rfl rfl rfl ?_
              refine al_q (q_pickF rfl rfl) rfl rfl rfl ?_
              refine al_q (q_pickT rfl rfl) rfl rfl rfl ?_
              refine al_q (q_move rfl) rfl rfl rfl ?_
              refine al_call Try.call10 .nil rfl rfl (fun w14 hs14 => ?_)
              refine (awake3_any _).mono ?_
              rintro e u14 ⟨rfl, hb_14⟩
              refine ⟨_, rfl, hb_14, ?_⟩
              clear hs14
              refine al_q (q_pickT rfl rfl) rfl rfl rfl ?_
              refine al_q (q_assign rfl) rfl rfl rfl ?_
              refine al_end ?_
              refine aq_then ?_
              refine ac_ret ?_
              refine ret1 Try.results7 rfl (fun w9 hs => ?_)
              exact ⟨rfl, hs.below⟩

end Go.Proofs.Ytcjndnadibbcbaa
end
