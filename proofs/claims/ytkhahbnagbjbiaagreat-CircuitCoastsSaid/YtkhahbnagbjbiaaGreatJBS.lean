import Derived.Test.YtkhahbnagbjbiaaGreatJBP
import Derived.Test.YtkhahbnagbjbiaaGreatJBR
import Derived.Test.YtkhahbnagbjbiaaGreatRows
import Derived.KernelRfl
import Derived.Laws.StructEq
section
/- The law CircuitCoasts, over this seat's translation (written by ax_ci28.py). -/
namespace Go.Proofs.YtkhahbnagbjbiaaGreat
set_option linter.unusedVariables false
set_option linter.unusedSimpArgs false
open Go.RowKit

theorem coastD_add (M : MachD) (S : StD) (a : Nat) : ∀ b : Nat, coastD M (coastD M S a) b = coastD M S (a + b)
  | 0 => rfl
  | b + 1 => by
    have h := coastD_add M S a b
    show stepD M (coastD M (coastD M S a) b) (zerosI M.coils.length) (coastD M S a).C.plasma = stepD M (coastD M S (a + b)) (zerosI M.coils.length) S.C.plasma
    rw [h, coast_plasma]
theorem coast_two {M : MachD} {S : StD} {n k : Int} (hE : coastE M S n = 0) (hn : n ≤ 100) (hk : 0 ≤ k ∧ k ≤ 100) : coastE M S (n + k) = coastE M (endD (coastE M S n) (coastD M S n.toNat)) k ∧ coastD M S (n + k).toNat = coastD M (endD (coastE M S n) (coastD M S n.toNat)) k.toNat := by
  obtain ⟨hF, ⟨h1, h2⟩, h3⟩ := coastE_ok hE
  have e : endD (coastE M S n) (coastD M S n.toNat) = coastD M S n.toNat := if_pos hE
  rw [e]
  have hF2 := coast_fit hF n.toNat (by omega)
  have ht : (coastD M S n.toNat).tick = S.tick + n := by have := steps_tick M S (fun _ : Nat => (zerosI M.coils.length, S.C.plasma)) n.toNat; unfold coastD; rw [this]; omega
  refine ⟨?_, ?_⟩
  · unfold coastE
    rw [if_pos (fitS_iff.2 hF), if_pos (fitS_iff.2 hF2)]
    unfold repE
    rw [ht]
    split
    · rw [if_pos (by omega)]
    · rw [if_neg (by omega)]
  · rw [coastD_add, show (n + k).toNat = n.toNat + k.toNat from by omega]
theorem ccoast_sum (R : MachR) (M : MachD) (RS : StR) (S : StD) (n k : Int) (w : World) (hM : IsM w R M) (hS : IsS w RS S) (hE : coastE M S n = 0) (hn : n ≤ 100) (hk : 0 ≤ k ∧ k ≤ 100) : Calls Tryz.prog 17 #[.agg (machCells R M), RS.v S.tick, .int .i64 (n + k)] w (OutS w (coastE M (endD (coastE M S n) (coastD M S n.toNat)) k) (coastD M (endD (coastE M S n) (coastD M S n.toNat)) k.toNat)) := by
  have h := ccoast_any R M RS S (n + k) w hM hS
  rwa [(coast_two hE hn hk).1, (coast_two hE hn hk).2] at h

set_option maxRecDepth 100000 in
theorem coasts_walk (R : MachR) (M : MachD) (RS : StR) (S : StD) (n k : Int) (w : World) (hM0 : R.la ≤ 1000000000000000 → R.lb ≤ 1000000000000000 → R.lc ≤ 1000000000000000 → R.ld ≤ 1000000000000000 → IsM w R M) (hS0 : RS.Q.la ≤ 1000000000000000 → RS.Q.lb ≤ 1000000000000000 → RS.Q.lc ≤ 1000000000000000 → RS.lh ≤ 1000000000000000 → IsS w RS S) : Calls Tryz.prog 5 #[(.agg #[.string M.name, .slice R.A R.la R.ca, .slice R.B R.lb R.cb, .slice R.C R.lc R.cc, .int .i64 M.grid.r, .int .i64 M.grid.z, .int .i64 M.grid.nr, .int .i64 M.grid.nz, .int .i64 M.grid.step, .slice R.D R.ld R.cd, .int .i64 S.tick, .slice RS.Q.A RS.Q.la RS.Q.ca, .slice RS.Q.B RS.Q.lb RS.Q.cb, .slice RS.Q.C RS.Q.lc RS.Q.cc, .slice RS.H RS.lh RS.ch, .slice RS.T RS.lt RS.ct, .int .i64 n, .int .i64 k])] w (Ret (.bool true) w) := by
  refine calls_ax (vs := [(.agg #[.string M.name, .slice R.A R.la R.ca, .slice R.B R.lb R.cb, .slice R.C R.lc R.cc, .int .i64 M.grid.r, .int .i64 M.grid.z, .int .i64 M.grid.nr, .int .i64 M.grid.nz, .int .i64 M.grid.step, .slice R.D R.ld R.cd, .int .i64 S.tick, .slice RS.Q.A RS.Q.la RS.Q.ca, .slice RS.Q.B RS.Q.lb RS.Q.cb, .slice RS.Q.C RS.Q.lc RS.Q.cc, .slice RS.H RS.lh RS.ch, .slice RS.T RS.lt RS.ct, .int .i64 n, .int .i64 k])]) Tryz.func5 rfl rfl ?_
  refine ac_seq ?_
  refine ac_region ?_
  refine al_new (fun b => .pointer (some ⟨b, 0, none⟩)) (r_box rfl rfl) rfl rfl rfl ?_
  intro b1
  refine al_q (q_assign rfl) rfl rfl rfl ?_
  refine al_end ?_
  refine aq_then ?_
  refine ac_seq ?_
  refine ac_draw 13 (by kernel_rfl) (by kernel_rfl) ?_
  refine ah_share (fuel' := 4) (listed' := #[true, true, true, true, true, true, true, true, true, true, false, false, false, false]) (fun K => ∀ (b1001 : Nat), ∀ (b3001 : Nat), K [(1, (.pointer (some ⟨b1, 0, none⟩))), (2, (.bool false)), (3, (.pointer (some ⟨b1001, 0, none⟩))), (4, (.pointer (some ⟨b3001, 0, none⟩))), (15, (.pointer (some ⟨b1, 0, none⟩))), (16, (.agg #[(.string M.name), (.slice (R.A) R.la R.ca), (.slice (R.B) R.lb R.cb), (.slice (R.C) R.lc R.cc), (.int .i64 M.grid.r), (.int .i64 M.grid.z), (.int .i64 M.grid.nr), (.int .i64 M.grid.nz), (.int .i64 M.grid.step), (.slice (R.D) R.ld R.cd)])), (17, (.pointer (some ⟨b1, 10, none⟩))), (18, (.agg #[(.int .i64 S.tick), (.slice RS.Q.A RS.Q.la RS.Q.ca), (.slice RS.Q.B RS.Q.lb RS.Q.cb), (.slice RS.Q.C RS.Q.lc RS.Q.cc), (.slice RS.H RS.lh RS.ch), (.slice RS.T RS.lt RS.ct)])), (19, (.pointer (some ⟨b1, 16, none⟩))), (20, (.int .i64 n)), (21, (.pointer (some ⟨b1, 17, none⟩))), (22, (.int .i64 k))] [(b3001, .cells [(.int .i64 0), (.slice none 0 0), (.slice none 0 0), (.slice none 0 0), (.slice none 0 0), (.slice none 0 0)]), (b1001, .cells [(.string { data := #[] }), (.slice none 0 0), (.slice none 0 0), (.slice none 0 0), (.int .i64 0), (.int .i64 0), (.int .i64 0), (.int .i64 0), (.int .i64 0), (.slice none 0 0)]), (b1, .cells [(.string M.name), (.slice (R.A) R.la R.ca), (.slice (R.B) R.lb R.cb), (.slice (R.C) R.lc R.cc), (.int .i64 M.grid.r), (.int .i64 M.grid.z), (.int .i64 M.grid.nr), (.int .i64 M.grid.nz), (.int .i64 M.grid.step), (.slice (R.D) R.ld R.cd), (.int .i64 S.tick), (.slice RS.Q.A RS.Q.la RS.Q.ca), (.slice RS.Q.B RS.Q.lb RS.Q.cb), (.slice RS.Q.C RS.Q.lc RS.Q.cc), (.slice RS.H RS.lh RS.ch), (.slice RS.T RS.lt RS.ct), (.int .i64 n), (.int .i64 k)])]) ?_ (fun hS1_0 => ?_)
  · intro b1001 b3001
    refine ah_one 10 rfl (by kernel_rfl) (fun hok1 hcl1 => ?_)
    refine al_storeAll (i := 1) rfl rfl rfl rfl Tryz.sizeOf29 rfl rfl .k1 rfl ?_
    refine al_end (ah_back hok1 hcl1 (fun w9 hs => (hs.tail 2 rfl)) ?_)
    refine ah_one 11 rfl (by kernel_rfl) (fun hok2 hcl2 => ?_)
    refine al_storeAll (i := 0) rfl rfl rfl rfl Tryz.sizeOf35 rfl rfl .k0 rfl ?_
    refine al_end (ah_back hok2 hcl2 (fun w9 hs => (hs.tail 2 rfl)) ?_)
    refine ah_take 12 (fun w9 hs => (hs.tail 2 rfl)) rfl rfl rfl (by kernel_rfl) (by kernel_rfl) (by kernel_rfl) (fun _ _ _ h => h) rfl (q_assign rfl) ?_
    refine ah_take 13 (fun w9 hs => (hs.tail 2 rfl)) rfl rfl rfl (by kernel_rfl) (by kernel_rfl) (by kernel_rfl) (fun _ _ _ h => h) rfl (q_assign rfl) ?_
    refine ah_done (by kernel_rfl) ?_
    refine aq_then ?_
    refine ac_seq ?_
    refine ac_seq ?_
    refine ac_region ?_
    refine al_q (q_loadAll (i := 1) rfl rfl Tryz.isAgg29 Tryz.sizeOf29 rfl) rfl rfl rfl ?_
    refine al_q (q_loadAll (i := 0) rfl rfl Tryz.isAgg35 Tryz.sizeOf35 rfl) rfl rfl rfl ?_
    refine al_call Tryz.call7 (.cons rfl (.cons rfl .nil)) rfl rfl (fun w1 hs1 => ?_)
    refine (brief3_any R M RS S _).mono ?_
    rintro e u1 ⟨bb, rfl, hbb, hb_1⟩
    refine ⟨_, rfl, hb_1, ?_⟩
    clear hs1
    refine al_q (q_not rfl) rfl rfl rfl ?_
    refine al_q (q_move rfl) rfl rfl rfl ?_
    refine aq_split 27 rfl (fun hb1 => ?_) (fun hb1 => ?_)
    · skip
      refine al_skip rfl rfl rfl ?_
      refine al_skip rfl rfl rfl ?_
      refine al_q (q_pickT rfl rfl) rfl rfl rfl ?_
      refine al_q (q_move rfl) rfl rfl rfl ?_
      refine al_skip rfl rfl rfl ?_
      refine al_skip rfl rfl rfl ?_
      refine al_q (q_pickT rfl rfl) rfl rfl rfl ?_
      refine al_end ?_
      refine aq_then ?_
      refine ac_condT rfl ?_
      refine ac_seq ?_
      refine ac_region ?_
      refine al_call Tryz.call8 .nil rfl rfl (fun w2 hs2 => ?_)
      refine (awake3_any _).mono ?_
      rintro e u2 ⟨rfl, hb_2⟩
      refine ⟨_, rfl, hb_2, ?_⟩
      clear hs2
      refine al_q (q_assign rfl) rfl rfl rfl ?_
      refine al_end ?_
      refine aq_then ?_
      refine ac_ret ?_
      refine aq_thenR ?_
      refine ret1 Tryz.results5 rfl (fun w9 hs => ?_)
      exact ⟨rfl, hs.below⟩
    · have hB := hbb (by simpa using hb1)
      obtain ⟨⟨m1, m2, m3, m4⟩, m5, m6, m7, m8⟩ := hB
      have hM := hM0 (by omega) (by omega) (by omega) (by omega)
      have hS := hS0 (by omega) (by omega) (by omega) (by omega)
      refine al_q (q_move rfl) rfl rfl rfl ?_
      refine al_q (q_gtr rfl rfl) rfl rfl rfl ?_
      refine al_q (q_pickF rfl rfl) rfl rfl rfl ?_
      refine al_q (q_move rfl) rfl rfl rfl ?_
      refine aq_split 31 rfl (fun hb2 => ?_) (fun hb2 => ?_)
      · skip
        refine al_skip rfl rfl rfl ?_
        refine al_skip rfl rfl rfl ?_
        refine al_q (q_pickT rfl rfl) rfl rfl rfl ?_
        refine al_end ?_
        refine aq_then ?_
        refine ac_condT rfl ?_
        refine ac_seq ?_
        refine ac_region ?_
        refine al_call Tryz.call8 .nil rfl rfl (fun w3 hs3 => ?_)
        refine (awake3_any _).mono ?_
        rintro e u3 ⟨rfl, hb_3⟩
        refine ⟨_, rfl, hb_3, ?_⟩
        clear hs3
        refine al_q (q_assign rfl) rfl rfl rfl ?_
        refine al_end ?_
        refine aq_then ?_
        refine ac_ret ?_
        refine aq_thenR ?_
        refine ret1 Tryz.results5 rfl (fun w9 hs => ?_)
        exact ⟨rfl, hs.below⟩
      · have hn : n ≤ 100 := by have := of_decide_eq_false hb2; omega
        refine al_q (q_move rfl) rfl rfl rfl ?_
        refine al_q (q_gtr rfl rfl) rfl rfl rfl ?_
        refine al_q (q_pickF rfl rfl) rfl rfl rfl ?_
        refine al_end ?_
        refine aq_then ?_
        refine ac_cond rfl (fun h1 => ?_) (fun h1 => ?_)
        · skip
          refine ac_seq ?_
          refine ac_region ?_
          refine al_call Tryz.call8 .nil rfl rfl (fun w4 hs4 => ?_)
          refine (awake3_any _).mono ?_
          rintro e u4 ⟨rfl, hb_4⟩
          refine ⟨_, rfl, hb_4, ?_⟩
          clear hs4
          refine al_q (q_assign rfl) rfl rfl rfl ?_
          refine al_end ?_
          refine aq_then ?_
          refine ac_ret ?_
          refine aq_thenR ?_
          refine ret1 Tryz.results5 rfl (fun w9 hs => ?_)
          exact ⟨rfl, hs.below⟩
        · have hk1 : k ≤ 100 := by have := of_decide_eq_false h1; omega
          refine ac_skip ?_
          refine aq_then ?_
          refine ac_seq ?_
          refine ac_region ?_
          refine al_q (q_loadAll (i := 1) rfl rfl Tryz.isAgg29 Tryz.sizeOf29 rfl) rfl rfl rfl ?_
          refine al_q (q_loadAll (i := 0) rfl rfl Tryz.isAgg35 Tryz.sizeOf35 rfl) rfl rfl rfl ?_
          refine al_q (q_move rfl) rfl rfl rfl ?_
          refine al_call Tryz.call17 (.cons rfl (.cons rfl (.cons rfl .nil))) rfl rfl (fun w5 hs5 => ?_)
          refine (ccoast_any R M RS S n _ (hM.below hs5.below) (hS.below hs5.below)).mono ?_
          rintro e u5 ⟨x, nx, rfl, k1_, k2_, hb_5⟩
          obtain ⟨rfl, X_x, N_x⟩ := outS_data k1_ k2_
          refine ⟨_, rfl, hb_5, ?_⟩
          clear hs5
          refine al_q (q_move rfl) rfl rfl rfl ?_
          refine al_q (q_extract rfl rfl) rfl rfl rfl ?_
          refine al_q (q_extract rfl rfl) rfl rfl rfl ?_
          refine al_new (fun b => .pointer (some ⟨b, 0, none⟩)) (r_alloc Tryz.zeroValue35 rfl) rfl rfl rfl ?_
          intro b2
          refine al_storeAll (i := 0) rfl rfl rfl rfl Tryz.sizeOf35 rfl rfl .k0 rfl ?_
          refine al_q (q_assign rfl) rfl rfl rfl ?_
          refine al_end ?_
          refine aq_then ?_
          refine ac_seq ?_
          refine ac_region ?_
          refine al_q (q_loadAll (i := 2) rfl rfl Tryz.isAgg29 Tryz.sizeOf29 rfl) rfl rfl rfl ?_
          refine al_q (q_loadAll (i := 1) rfl rfl Tryz.isAgg35 Tryz.sizeOf35 rfl) rfl rfl rfl ?_
          refine al_q (q_move rfl) rfl rfl rfl ?_
          refine al_call Tryz.call18 (.cons rfl (.cons rfl (.cons rfl .nil))) rfl rfl (fun w6 hs6 => ?_)
          refine (rCoast_any R M RS S n _ (hM.below hs6.below) (hS.below hs6.below)).mono ?_
          rintro e u6 ⟨y, ny, rfl, k1_, k2_, hb_6⟩
          obtain ⟨rfl, X_y, N_y⟩ := outS_data k1_ k2_
          refine ⟨_, rfl, hb_6, ?_⟩
          clear hs6
          refine al_q (q_move rfl) rfl rfl rfl ?_
          refine al_q (q_extract rfl rfl) rfl rfl rfl ?_
          refine al_q (q_extract rfl rfl) rfl rfl rfl ?_
          refine al_new (fun b => .pointer (some ⟨b, 0, none⟩)) (r_alloc Tryz.zeroValue35 rfl) rfl rfl rfl ?_
          intro b3
          refine al_storeAll (i := 0) rfl rfl rfl rfl Tryz.sizeOf35 rfl rfl .k0 rfl ?_
          refine al_q (q_assign rfl) rfl rfl rfl ?_
          refine al_end ?_
          refine aq_then ?_
          refine ac_seq ?_
          refine ac_seq ?_
          refine ac_region ?_
          refine al_q (q_move rfl) rfl rfl rfl ?_
          refine al_q (q_move rfl) rfl rfl rfl ?_
          refine al_q (q_same (v' := .bool false) (q_neq rfl rfl) (by simp)) rfl rfl rfl ?_
          refine al_q (q_move rfl) rfl rfl rfl ?_
          refine al_q (q_loadAll (i := 1) rfl rfl Tryz.isAgg35 Tryz.sizeOf35 rfl) rfl rfl rfl ?_
          refine al_q (q_loadAll (i := 0) rfl rfl Tryz.isAgg35 Tryz.sizeOf35 rfl) rfl rfl rfl ?_
          refine al_call Tryz.call11 (.cons rfl (.cons rfl .nil)) rfl rfl (fun w7 hs7 => ?_)
          refine (rsameS_refl x y (endD (coastE M S n) (coastD M S n.toNat)) _ (hs7.isS (.tail _ (.head _)) X_x N_x) (hs7.isS (.head _) X_y N_y)).mono ?_
          rintro e u7 ⟨rfl, hb_7⟩
          refine ⟨_, rfl, hb_7, ?_⟩
          clear hs7
          refine al_q (q_not rfl) rfl rfl rfl ?_
          refine al_q (q_pickF rfl rfl) rfl rfl rfl ?_
          refine al_end ?_
          refine aq_then ?_
          refine ac_condF rfl ?_
          refine ac_skip ?_
          refine aq_then ?_
          refine ac_seq ?_
          refine ac_seq ?_
          refine ac_region ?_
          refine al_q (q_move rfl) rfl rfl rfl ?_
          refine al_q (q_neq rfl rfl) rfl rfl rfl ?_
          refine al_q (q_move rfl) rfl rfl rfl ?_
          refine aq_split 61 rfl (fun hb3 => ?_) (fun hb3 => ?_)
          · skip
            refine al_skip rfl rfl rfl ?_
            refine al_skip rfl rfl rfl ?_
            refine al_q (q_pickT rfl rfl) rfl rfl rfl ?_
            refine al_end ?_
            refine aq_then ?_
            refine ac_condT rfl ?_
            refine ac_seq ?_
            refine ac_region ?_
            refine al_call Tryz.call8 .nil rfl rfl (fun w8 hs8 => ?_)
            refine (awake3_any _).mono ?_
            rintro e u8 ⟨rfl, hb_8⟩
            refine ⟨_, rfl, hb_8, ?_⟩
            clear hs8
            refine al_q (q_assign rfl) rfl rfl rfl ?_
            refine al_end ?_
            refine aq_then ?_
            refine ac_ret ?_
            refine aq_thenR ?_
            refine ret1 Tryz.results5 rfl (fun w9 hs => ?_)
            exact ⟨rfl, hs.below⟩
          · have hE1 : coastE M S n = 0 := by simpa using hb3
            have hn0 := (coastE_ok hE1).2.1
            refine al_q (q_move rfl) rfl rfl rfl ?_
            refine al_q (q_lss rfl rfl) rfl rfl rfl ?_
            refine al_q (q_pickF rfl rfl) rfl rfl rfl ?_
            refine al_end ?_
            refine aq_then ?_
            refine ac_cond rfl (fun h2 => ?_) (fun h2 => ?_)
            · skip
              refine ac_seq ?_
              refine ac_region ?_
              refine al_call Tryz.call8 .nil rfl rfl (fun w9 hs9 => ?_)
              refine (awake3_any _).mono ?_
              rintro e u9 ⟨rfl, hb_9⟩
              refine ⟨_, rfl, hb_9, ?_⟩
              clear hs9
              refine al_q (q_assign rfl) rfl rfl rfl ?_
              refine al_end ?_
              refine aq_then ?_
              refine ac_ret ?_
              refine aq_thenR ?_
              refine ret1 Tryz.results5 rfl (fun w9 hs => ?_)
              exact ⟨rfl, hs.below⟩
            · have hk : 0 ≤ k ∧ k ≤ 100 := by have := of_decide_eq_false h2; omega
              refine ac_skip ?_
              refine aq_then ?_
              refine ac_seq ?_
              refine ac_region ?_
              refine al_q (q_loadAll (i := 3) rfl rfl Tryz.isAgg29 Tryz.sizeOf29 rfl) rfl rfl rfl ?_
              refine al_q (q_loadAll (i := 1) rfl rfl Tryz.isAgg35 Tryz.sizeOf35 rfl) rfl rfl rfl ?_
              refine al_q (q_move rfl) rfl rfl rfl ?_
              refine al_call Tryz.call17 (.cons rfl (.cons rfl (.cons rfl .nil))) rfl rfl (fun w10 hs10 => ?_)
              refine (ccoast_any R M x (endD (coastE M S n) (coastD M S n.toNat)) k _ (hM.below hs10.below) (hs10.isS (.tail _ (.tail _ (.head _))) X_x N_x)).mono ?_
              rintro e u10 ⟨p, np, rfl, k1_, k2_, hb_10⟩
              obtain ⟨rfl, X_p, N_p⟩ := outS_data k1_ k2_
              refine ⟨_, rfl, hb_10, ?_⟩
              clear hs10
              refine al_q (q_move rfl) rfl rfl rfl ?_
              refine al_q (q_extract rfl rfl) rfl rfl rfl ?_
              refine al_q (q_extract rfl rfl) rfl rfl rfl ?_
              refine al_new (fun b => .pointer (some ⟨b, 0, none⟩)) (r_alloc Tryz.zeroValue35 rfl) rfl rfl rfl ?_
              intro b4
              refine al_storeAll (i := 0) rfl rfl rfl rfl Tryz.sizeOf35 rfl rfl .k0 rfl ?_
              refine al_q (q_assign rfl) rfl rfl rfl ?_
              refine al_end ?_
              refine aq_then ?_
              refine ac_seq ?_
              refine ac_region ?_
              refine al_q (q_loadAll (i := 4) rfl rfl Tryz.isAgg29 Tryz.sizeOf29 rfl) rfl rfl rfl ?_
              refine al_q (q_loadAll (i := 3) rfl rfl Tryz.isAgg35 Tryz.sizeOf35 rfl) rfl rfl rfl ?_
              refine al_q (q_move rfl) rfl rfl rfl ?_
              refine al_q (q_move rfl) rfl rfl rfl ?_
              refine al_q (q_add rfl rfl (by omega)) rfl rfl rfl ?_
              refine al_call Tryz.call17 (.cons rfl (.cons rfl (.cons rfl .nil))) rfl rfl (fun w11 hs11 => ?_)
              refine (ccoast_sum R M RS S n k _ (hM.below hs11.below) (hS.below hs11.below) hE1 hn hk).mono ?_
              rintro e u11 ⟨q, nq, rfl, k1_, k2_, hb_11⟩
              obtain ⟨rfl, X_q, N_q⟩ := outS_data k1_ k2_
              refine ⟨_, rfl, hb_11, ?_⟩
              clear hs11
              refine al_q (q_move rfl) rfl rfl rfl ?_
              refine al_q (q_extract rfl rfl) rfl rfl rfl ?_
              refine al_q (q_extract rfl rfl) rfl rfl rfl ?_
              refine al_new (fun b => .pointer (some ⟨b, 0, none⟩)) (r_alloc Tryz.zeroValue35 rfl) rfl rfl rfl ?_
              intro b5
              refine al_storeAll (i := 0) rfl rfl rfl rfl Tryz.sizeOf35 rfl rfl .k0 rfl ?_
              refine al_q (q_assign rfl) rfl rfl rfl ?_
              refine al_end ?_
              refine aq_then ?_
              refine aq_keepL [2, 11, 12, 13, 14] (.cons rfl (.cons rfl (.cons rfl (.cons rfl (.cons rfl .nil))))) ?_
              refine ac_seq ?_
              refine ac_region ?_
              refine al_q (q_move rfl) rfl rfl rfl ?_
              refine al_q (q_move rfl) rfl rfl rfl ?_
              refine al_q (q_same (v' := .bool true) (q_eql rfl rfl) (by simp)) rfl rfl rfl ?_
              refine al_q (q_move rfl) rfl rfl rfl ?_
              refine al_q (q_loadAll (i := 1) rfl rfl Tryz.isAgg35 Tryz.sizeOf35 rfl) rfl rfl rfl ?_
              refine al_q (q_loadAll (i := 0) rfl rfl Tryz.isAgg35 Tryz.sizeOf35 rfl) rfl rfl rfl ?_
              refine al_call Tryz.call11 (.cons rfl (.cons rfl .nil)) rfl rfl (fun w12 hs12 => ?_)
              refine (rsameS_refl p q (endD (coastE M (endD (coastE M S n) (coastD M S n.toNat)) k) (coastD M (endD (coastE M S n) (coastD M S n.toNat)) k.toNat)) _ (hs12.isS (.tail _ (.head _)) X_p N_p) (hs12.isS (.head _) X_q N_q)).mono ?_
              rintro e u12 ⟨rfl, hb_12⟩
              refine ⟨_, rfl, hb_12, ?_⟩
              clear hs12
              refine al_q (q_pickT rfl rfl) rfl rfl rfl ?_
              refine al_q (q_move rfl) rfl rfl rfl ?_
              refine al_call Tryz.call8 .nil rfl rfl (fun w13 hs13 => ?_)
              refine (awake3_any _).mono ?_
              rintro e u13 ⟨rfl, hb_13⟩
              refine ⟨_, rfl, hb_13, ?_⟩
              clear hs13
              refine al_q (q_pickT rfl rfl) rfl rfl rfl ?_
              refine al_q (q_assign rfl) rfl rfl rfl ?_
              refine al_end ?_
              refine aq_then ?_
              refine ac_ret ?_
              refine ret1 Tryz.results5 rfl (fun w9 hs => ?_)
              exact ⟨rfl, hs.below⟩
  · refine ah_take 0 (fun w9 hs => hs) rfl rfl rfl (by kernel_rfl) (by kernel_rfl) (by kernel_rfl) (fun _ _ _ h => h) rfl (q_fieldAddr 0 rfl Tryz.runUnderlying53 rfl Tryz.sizeOf29 (by decide) rfl) ?_
    refine ah_take 1 (fun w9 hs => hs) rfl rfl rfl (by kernel_rfl) (by kernel_rfl) (by kernel_rfl) (fun _ _ _ h => h) rfl (q_loadSub (i := 0) rfl rfl Tryz.isAgg29 Tryz.sizeOf29 .k0 .k10) ?_
    refine ah_take 2 (fun w9 hs => hs) rfl rfl rfl (by kernel_rfl) (by kernel_rfl) (by kernel_rfl) (fun _ _ _ h => h) rfl (q_fieldAddr 10 rfl Tryz.runUnderlying53 rfl Tryz.sizeOf35 (by decide) rfl) ?_
    refine ah_take 3 (fun w9 hs => hs) rfl rfl rfl (by kernel_rfl) (by kernel_rfl) (by kernel_rfl) (fun _ _ _ h => h) rfl (q_loadSub (i := 0) rfl rfl Tryz.isAgg35 Tryz.sizeOf35 .k10 .k6) ?_
    refine ah_take 4 (fun w9 hs => hs) rfl rfl rfl (by kernel_rfl) (by kernel_rfl) (by kernel_rfl) (fun _ _ _ h => h) rfl (q_fieldAddr 16 rfl Tryz.runUnderlying53 rfl Tryz.sizeOf3 (by decide) rfl) ?_
    refine ah_take 5 (fun w9 hs => hs) rfl rfl rfl (by kernel_rfl) (by kernel_rfl) (by kernel_rfl) (fun _ _ _ h => h) rfl (q_load (i := 0) rfl rfl rfl Tryz.isAgg3) ?_
    refine ah_take 6 (fun w9 hs => hs) rfl rfl rfl (by kernel_rfl) (by kernel_rfl) (by kernel_rfl) (fun _ _ _ h => h) rfl (q_fieldAddr 17 rfl Tryz.runUnderlying53 rfl Tryz.sizeOf3 (by decide) rfl) ?_
    refine ah_take 7 (fun w9 hs => hs) rfl rfl rfl (by kernel_rfl) (by kernel_rfl) (by kernel_rfl) (fun _ _ _ h => h) rfl (q_load (i := 0) rfl rfl rfl Tryz.isAgg3) ?_
    refine ah_two 8 9 rfl rfl  (by kernel_rfl) (fun hok3 hcl3 => ?_) (fun hok3 hcl3 => ?_)
    · refine al_new (fun b => .pointer (some ⟨b, 0, none⟩)) (r_alloc Tryz.zeroValue29 rfl) rfl rfl rfl ?_
      intro b6
      refine al_end (ah_back hok3 hcl3 (fun w9 hs => (hs.tail 1 rfl)) ?_)
      refine ah_one 9 rfl (by kernel_rfl) (fun hok4 hcl4 => ?_)
      refine al_new (fun b => .pointer (some ⟨b, 0, none⟩)) (r_alloc Tryz.zeroValue35 rfl) rfl rfl rfl ?_
      intro b7
      refine al_end (ah_back hok4 hcl4 (fun w9 hs => (hs.tail 2 rfl)) ?_)
      exact ah_to (hS1_0 b6 b7) rfl (by kernel_rfl) ⟨rfl, rfl, rfl, rfl, rfl, rfl, rfl, rfl, rfl, rfl, rfl, rfl, trivial⟩ (fun w9 hs => hs)
    · refine al_new (fun b => .pointer (some ⟨b, 0, none⟩)) (r_alloc Tryz.zeroValue35 rfl) rfl rfl rfl ?_
      intro b8
      refine al_end (ah_back hok3 hcl3 (fun w9 hs => (hs.tail 1 rfl)) ?_)
      refine ah_one 8 rfl (by kernel_rfl) (fun hok5 hcl5 => ?_)
      refine al_new (fun b => .pointer (some ⟨b, 0, none⟩)) (r_alloc Tryz.zeroValue29 rfl) rfl rfl rfl ?_
      intro b9
      refine al_end (ah_back hok5 hcl5 (fun w9 hs => (hs.tail 2 rfl)) ?_)
      exact ah_to (hS1_0 b9 b8) rfl (by kernel_rfl) ⟨rfl, rfl, rfl, rfl, rfl, rfl, rfl, rfl, rfl, rfl, rfl, rfl, trivial⟩ (fun w9 hs => hs.pm (.cons (.there (.here)) (.refl)))

end Go.Proofs.YtkhahbnagbjbiaaGreat
end
section
/- The frame of the laws over argument structs: how they are opened and shut, over this seat's translation (written by mk_opw.py). -/
namespace Go.Proofs.YtkhahbnagbjbiaaGreat
set_option linter.unusedVariables false
set_option linter.unusedSimpArgs false
set_option maxRecDepth 100000
open Go.ChangeShapes Go.WideShapes Go.ChangeAt Go.RowKit Go.Joins Go.Deep

section
variable {H : Type} {enc : TypeId × Value → H}

theorem open_machineC {W : World} {fuel : Nat} {cs : List Value} {d : DataW H} {p : List MemPlace}
    (h : DataW.trod enc Tryz.prog W 0 (fun _ => true) true fuel 29 cs = some (d, p)) :
    ∃ (R : MachR) (M : MachD), cs = [.string M.name, .slice R.A R.la R.ca, .slice R.B R.lb R.cb, .slice R.C R.lc R.cc, .int .i64 M.grid.r, .int .i64 M.grid.z, .int .i64 M.grid.nr, .int .i64 M.grid.nz, .int .i64 M.grid.step, .slice R.D R.ld R.cd] ∧ OpM W R M := by
  obtain ⟨xs, n, -, -, hl, hlen, hf⟩ := DataW.trod_struct Tryz.underlying29 h
  rw [show Tryz.prog.cellsOf 29 = 10 by kernel_rfl] at hl
  match xs, hlen with
  | [y0, y1, y2, y3, y4, y5], _ =>
    match cs, hl with
    | [c0, c1, c2, c3, c4, c5, c6, c7, c8, c9], _ =>
      obtain ⟨name, e0, -, -⟩ := DataW.trod_string Tryz.underlying9 ((hf 0 _ rfl).trans (rfl : _ = some y0))
      obtain ⟨A, la, ca, coils, e1, h1, k1, m1⟩ := open_isTc (n := 8) (E := CoilD.cells) (fun _ => rfl) Tryz.underlying22 (by kernel_rfl) (by decide) dec_Coil ((hf 1 _ rfl).trans (rfl : _ = some y1))
      obtain ⟨B, lb, cb, shells, e2, h2, k2, m2⟩ := open_isTc (n := 4) (E := ShellD.cells) (fun _ => rfl) Tryz.underlying23 (by kernel_rfl) (by decide) dec_Shell ((hf 2 _ rfl).trans (rfl : _ = some y2))
      obtain ⟨C, lc, cc, limits, e3, h3, k3, m3⟩ := open_isTc (n := 2) (E := PointD.cells) (fun _ => rfl) Tryz.underlying24 (by kernel_rfl) (by decide) dec_Point ((hf 3 _ rfl).trans (rfl : _ = some y3))
      obtain ⟨D, ld, cd, sensors, e5, h5, k5, m5⟩ := open_isTc (n := 5) (E := SensorD.cells) (fun _ => rfl) Tryz.underlying27 (by kernel_rfl) (by decide) dec_Sensor ((hf 5 _ rfl).trans (rfl : _ = some y5))
      obtain ⟨gs, gn, -, -, gl, glen, gf⟩ := DataW.trod_struct Tryz.underlying26 ((hf 4 _ rfl).trans (rfl : _ = some y4))
      match gs, glen with
      | [z0, z1, z2, z3, z4], _ =>
        obtain ⟨a0, f0, -, -⟩ := DataW.trod_int Tryz.underlying3 ((gf 0 _ rfl).trans (rfl : _ = some z0))
        obtain ⟨a1, f1, -, -⟩ := DataW.trod_int Tryz.underlying3 ((gf 1 _ rfl).trans (rfl : _ = some z1))
        obtain ⟨a2, f2, -, -⟩ := DataW.trod_int Tryz.underlying3 ((gf 2 _ rfl).trans (rfl : _ = some z2))
        obtain ⟨a3, f3, -, -⟩ := DataW.trod_int Tryz.underlying3 ((gf 3 _ rfl).trans (rfl : _ = some z3))
        obtain ⟨a4, f4, -, -⟩ := DataW.trod_int Tryz.underlying3 ((gf 4 _ rfl).trans (rfl : _ = some z4))
        have cg : Tryz.prog.cellsOf 26 = 5 := by kernel_rfl
        have cs1 : Tryz.prog.cellsOf 22 = 1 := by kernel_rfl
        have cs2 : Tryz.prog.cellsOf 23 = 1 := by kernel_rfl
        have cs3 : Tryz.prog.cellsOf 24 = 1 := by kernel_rfl
        have cs5 : Tryz.prog.cellsOf 27 = 1 := by kernel_rfl
        simp [cells_int, cells_string, cg, cs1, cs2, cs3, cs5] at e0 e1 e2 e3 e5 f0 f1 f2 f3 f4
        subst e0 e1 e2 e3 e5 f0 f1 f2 f3 f4
        unfold maxLen at m1 m2 m3 m5
        exact ⟨⟨A, B, C, D, la, ca, lb, cb, lc, cc, ld, cd⟩, ⟨name, coils, shells, limits, ⟨a0, a1, a2, a3, a4⟩, sensors⟩, rfl, h1, h2, h3, h5, k1, k2, k3, k5, m1, m2, m3, m5⟩

theorem open_stateC {W : World} {fuel : Nat} {cs : List Value} {d : DataW H} {p : List MemPlace}
    (h : DataW.trod enc Tryz.prog W 0 (fun _ => true) true fuel 35 cs = some (d, p)) :
    ∃ (R : StR) (S : StD), cs = [.int .i64 S.tick, .slice R.Q.A R.Q.la R.Q.ca, .slice R.Q.B R.Q.lb R.Q.cb, .slice R.Q.C R.Q.lc R.Q.cc, .slice R.H R.lh R.ch, .slice R.T R.lt R.ct] ∧ OpS W R S := by
  obtain ⟨xs, n, -, -, hl, hlen, hf⟩ := DataW.trod_struct Tryz.underlying35 h
  rw [show Tryz.prog.cellsOf 35 = 6 by kernel_rfl] at hl
  match xs, hlen with
  | [y0, y1, y2, y3], _ =>
    match cs, hl with
    | [c0, c1, c2, c3, c4, c5], _ =>
      obtain ⟨tk, e0, -, -⟩ := DataW.trod_int Tryz.underlying3 ((hf 0 _ rfl).trans (rfl : _ = some y0))
      obtain ⟨gs, gn, -, -, gl, glen, gf⟩ := DataW.trod_struct Tryz.underlying32 ((hf 1 _ rfl).trans (rfl : _ = some y1))
      obtain ⟨A4, l4, k4, z4, e4, h4, q4, m4⟩ := open_isTc (n := 1) (E := intCells) (fun _ => rfl) Tryz.underlying30 (by kernel_rfl) (by decide) dec_intI ((hf 2 _ rfl).trans (rfl : _ = some y2))
      obtain ⟨A5, l5, k5, z5, e5, h5, q5, m5⟩ := open_isTc (n := 1) (E := boolCells) (fun _ => rfl) Tryz.underlying33 (by kernel_rfl) (by decide) dec_boolB ((hf 3 _ rfl).trans (rfl : _ = some y3))
      match gs, glen with
      | [g0, g1, g2], _ =>
        obtain ⟨A1, l1, k1, z1, e1, h1, q1, m1⟩ := open_isTc (n := 1) (E := intCells) (fun _ => rfl) Tryz.underlying30 (by kernel_rfl) (by decide) dec_intI ((gf 0 _ rfl).trans (rfl : _ = some g0))
        obtain ⟨A2, l2, k2, z2, e2, h2, q2, m2⟩ := open_isTc (n := 1) (E := intCells) (fun _ => rfl) Tryz.underlying30 (by kernel_rfl) (by decide) dec_intI ((gf 1 _ rfl).trans (rfl : _ = some g1))
        obtain ⟨A3, l3, k3, z3, e3, h3, q3, m3⟩ := open_isTc (n := 1) (E := intCells) (fun _ => rfl) Tryz.underlying30 (by kernel_rfl) (by decide) dec_intI ((gf 2 _ rfl).trans (rfl : _ = some g2))
        have cg : Tryz.prog.cellsOf 32 = 3 := by kernel_rfl
        have cs1 : Tryz.prog.cellsOf 30 = 1 := by kernel_rfl
        have cs2 : Tryz.prog.cellsOf 33 = 1 := by kernel_rfl
        simp [cells_int, cg, cs1, cs2] at e0 e1 e2 e3 e4 e5
        subst e0 e1 e2 e3 e4 e5
        unfold maxLen at m1 m2 m3 m4 m5
        exact ⟨⟨⟨A1, A2, A3, l1, k1, l2, k2, l3, k3⟩, A4, A5, l4, k4, l5, k5⟩, ⟨tk, ⟨z1, z2, z3⟩, z4, z5⟩, rfl, ⟨⟨h1, h2, h3, q1, q2, q3, m1, m2, m3⟩, h4, h5, q4, q5, m4, m5⟩⟩

theorem wf_i64 {a : Int} (hw : (Lit.int .i64 a).wf = true) : -9223372036854775808 ≤ a ∧ a ≤ 9223372036854775807 := by
  simp only [Lit.wf, IntKind.min, IntKind.max, IntKind.signed, IntKind.bits, Bool.and_eq_true, decide_eq_true_eq, if_true] at hw
  omega

end

end Go.Proofs.YtkhahbnagbjbiaaGreat
end
section
/- The frame of the laws over an argument struct (written by mk_opw.py). -/
namespace Go.Proofs.YtkhahbnagbjbiaaGreat
set_option linter.unusedVariables false
set_option linter.unusedSimpArgs false
set_option maxRecDepth 100000
open Go.ChangeShapes Go.WideShapes Go.ChangeAt Go.RowKit Go.Joins Go.Deep

section
variable {H : Type} {enc : TypeId × Value → H}

theorem open_wait {W : World} {b0 : Nat} {r : Reach} {v : Value} {d : DataW H} {p : List MemPlace}
    (hv : Value.okWide Tryz.prog W r b0 53 v) (h : DataW.Trod enc Tryz.prog W 0 (fun _ => true) true 53 v d p) :
    ∃ (R : MachR) (M : MachD) (RS1 : StR) (S1 : StD) (g2 : Int) (g3 : Int), v = .agg #[.string M.name, .slice R.A R.la R.ca, .slice R.B R.lb R.cb, .slice R.C R.lc R.cc, .int .i64 M.grid.r, .int .i64 M.grid.z, .int .i64 M.grid.nr, .int .i64 M.grid.nz, .int .i64 M.grid.step, .slice R.D R.ld R.cd, .int .i64 S1.tick, .slice RS1.Q.A RS1.Q.la RS1.Q.ca, .slice RS1.Q.B RS1.Q.lb RS1.Q.cb, .slice RS1.Q.C RS1.Q.lc RS1.Q.cc, .slice RS1.H RS1.lh RS1.ch, .slice RS1.T RS1.lt RS1.ct, .int .i64 g2, .int .i64 g3] ∧ OpM W R M ∧ OpS W RS1 S1 ∧ (-9223372036854775808 ≤ g2 ∧ g2 ≤ 9223372036854775807) ∧ (-9223372036854775808 ≤ g3 ∧ g3 ≤ 9223372036854775807) := by
  obtain ⟨⟨cs⟩, rfl, hsz⟩ := okWide_struct Tryz.underlying53 hv
  obtain ⟨fuel, hf0⟩ := h
  have hf1 : DataW.trod enc Tryz.prog W 0 (fun _ => true) true fuel 53 cs = some (d, p) := hf0
  obtain ⟨xs, n, -, -, hl, hlen, hf⟩ := DataW.trod_struct Tryz.underlying53 hf1
  rw [show Tryz.prog.cellsOf 53 = 18 by kernel_rfl] at hl
  match xs, hlen with
  | [y0, y1, y2, y3], _ =>
    match cs, hl with
    | [c0, c1, c2, c3, c4, c5, c6, c7, c8, c9, c10, c11, c12, c13, c14, c15, c16, c17], _ =>
      obtain ⟨R, M, e0, h0⟩ := open_machineC ((hf 0 _ rfl).trans (rfl : _ = some y0))
      obtain ⟨RS1, S1, e1, h1⟩ := open_stateC ((hf 1 _ rfl).trans (rfl : _ = some y1))
      obtain ⟨g2, e2, -, w2⟩ := DataW.trod_int Tryz.underlying3 ((hf 2 _ rfl).trans (rfl : _ = some y2))
      obtain ⟨g3, e3, -, w3⟩ := DataW.trod_int Tryz.underlying3 ((hf 3 _ rfl).trans (rfl : _ = some y3))
      have zmachine : Tryz.prog.cellsOf 29 = 10 := by kernel_rfl
      have zstate : Tryz.prog.cellsOf 35 = 6 := by kernel_rfl
      simp [cells_int, zmachine, zstate] at e0 e1 e2 e3
      obtain ⟨rfl, rfl, rfl, rfl, rfl, rfl, rfl, rfl, rfl, rfl⟩ := e0
      obtain ⟨rfl, rfl, rfl, rfl, rfl, rfl⟩ := e1
      subst e2
      subst e3
      exact ⟨R, M, RS1, S1, g2, g3, rfl, h0, h1, wf_i64 w2, wf_i64 w3⟩
theorem shut_wait {W W' : World} {v : Value} {d : DataW H} {p : List MemPlace} (h : DataW.Trod enc Tryz.prog W 0 (fun _ => true) true 53 v d p) (hb : Below W.heap.size W W') (hlt : ∀ x ∈ p, x.block < W.heap.size) :
    DataW.Trod enc Tryz.prog W' 0 (fun b => decide (b < W.heap.size)) true 53 v d p :=
  Below.trod (by kernel_rfl) (by kernel_rfl) (of_decide_eq_true (by kernel_rfl)) h hb hlt

end

end Go.Proofs.YtkhahbnagbjbiaaGreat
end
