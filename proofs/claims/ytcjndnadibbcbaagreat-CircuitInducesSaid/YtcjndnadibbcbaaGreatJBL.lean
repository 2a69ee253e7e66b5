import Derived.Test.YtcjndnadibbcbaaGreatJAA
import Derived.Test.YtcjndnadibbcbaaGreatJAB
import Derived.Test.YtcjndnadibbcbaaGreatJBK
import Derived.Test.YtcjndnadibbcbaaGreatRows
import Derived.KernelRfl
import Derived.Laws.StructEq
import Derived.ProofKit
import Derived.OpenShut
import Derived.Lib.SmallJoins
import Derived.Deep.Slices
import Derived.Carry
section
/- The law CircuitInduces, over this seat's translation (written by ax_ci22.py). -/
namespace Go.Proofs.YtcjndnadibbcbaaGreat
set_option linter.unusedVariables false
set_option linter.unusedSimpArgs false
open Go.RowKit

set_option maxRecDepth 100000 in
theorem rApplied_any (R : MachR) (M : MachD) (RS : StR) (S : StD) (A1 : Option Addr) (l1 c1 : Nat) (ch : List Int) (w : World) (hM : IsM w R M) (hS : IsS w RS S) (i1 : IsT 1 intCells w A1 l1 ch) : Calls Tryz.prog 11 #[(.agg (machCells R M)), (RS.v S.tick), (.slice A1 l1 c1)] w (OutL w (applE M S ch) (appL M S ch)) := by
  refine calls_ax (vs := [(.agg (machCells R M)), (RS.v S.tick), (.slice A1 l1 c1)]) Tryz.func11 rfl rfl ?_
  refine ac_seq ?_
  refine ac_region ?_
  refine al_new (fun b => .pointer (some ⟨b, 0, none⟩)) (r_box rfl rfl) rfl rfl rfl ?_
  intro b1
  refine al_new (fun b => .pointer (some ⟨b, 0, none⟩)) (r_box rfl rfl) rfl rfl rfl ?_
  intro b2
  refine al_q (q_assign rfl) rfl rfl rfl ?_
  refine al_q (q_assign rfl) rfl rfl rfl ?_
  refine al_end ?_
  refine aq_then ?_
  refine ac_seq ?_
  refine ac_seq ?_
  refine ac_region ?_
  refine al_q (q_loadAll (i := 1) rfl rfl Tryz.isAgg29 Tryz.sizeOf29 rfl) rfl rfl rfl ?_
  refine al_q (q_loadAll (i := 0) rfl rfl Tryz.isAgg35 Tryz.sizeOf35 rfl) rfl rfl rfl ?_
  refine al_call Tryz.call32 (.cons rfl (.cons rfl .nil)) rfl rfl (fun w1 hs1 => ?_)
  refine (rvalidState_any R M RS S _ (hM.below hs1.below) (hS.below hs1.below)).mono ?_
  rintro e u1 ⟨rfl, hb_1⟩
  refine ⟨_, rfl, hb_1, ?_⟩
  clear hs1
  refine al_q (q_not rfl) rfl rfl rfl ?_
  refine al_q (q_move rfl) rfl rfl rfl ?_
  refine aq_split 12 rfl (fun hb1 => ?_) (fun hb1 => ?_)
  · have hE : applE M S ch = 1 := if_neg (fun h => by rw [h.1] at hb1; cases hb1)
    refine al_skip rfl rfl rfl ?_
    refine al_skip rfl rfl rfl ?_
    refine al_skip rfl rfl rfl ?_
    refine al_skip rfl rfl rfl ?_
    refine al_q (q_pickT rfl rfl) rfl rfl rfl ?_
    refine al_end ?_
    refine aq_then ?_
    refine ac_condT rfl ?_
    refine ac_seq ?_
    refine ac_region ?_
    refine al_q (q_assign rfl) rfl rfl rfl ?_
    refine al_q (q_assign rfl) rfl rfl rfl ?_
    refine al_end ?_
    refine aq_then ?_
    refine ac_ret ?_
    refine aq_thenR ?_
    refine ret2 Tryz.results11 rfl rfl (fun w9 hs => ?_)
    rw [hE]; exact OutL.bad (by decide) hs.below
  · have hv : validS M S = true := by simpa using hb1
    have hf := fitS_iff.1 hv
    obtain ⟨s1, s2⟩ := smallC hM hf.cur.check
    refine al_q (q_loadAll (i := 1) rfl rfl Tryz.isAgg29 Tryz.sizeOf29 rfl) rfl rfl rfl ?_
    refine al_q (q_move rfl) rfl rfl rfl ?_
    refine al_call Tryz.call33 (.cons rfl (.cons rfl (.cons rfl .nil))) rfl rfl (fun w2 hs2 => ?_)
    refine (rvalidChange_any R M A1 l1 c1 ch 1000000000000000 _ (hM.below hs2.below) (i1.below hs2.below) (by omega)).mono ?_
    rintro e u2 ⟨rfl, hb_2⟩
    refine ⟨_, rfl, hb_2, ?_⟩
    clear hs2
    refine al_q (q_not rfl) rfl rfl rfl ?_
    refine al_q (q_pickF rfl rfl) rfl rfl rfl ?_
    refine al_end ?_
    refine aq_then ?_
    refine ac_cond rfl (fun h1 => ?_) (fun h1 => ?_)
    · have hE : applE M S ch = 1 := if_neg (fun h => by rw [h.2] at h1; cases h1)
      refine ac_seq ?_
      refine ac_region ?_
      refine al_q (q_assign rfl) rfl rfl rfl ?_
      refine al_q (q_assign rfl) rfl rfl rfl ?_
      refine al_end ?_
      refine aq_then ?_
      refine ac_ret ?_
      refine aq_thenR ?_
      refine ret2 Tryz.results11 rfl rfl (fun w9 hs => ?_)
      rw [hE]; exact OutL.bad (by decide) hs.below
    · have hd : validCh M ch 1000000000000000 = true := by simpa using h1
      have hE : applE M S ch = 0 := if_pos ⟨hv, hd⟩
      refine ac_skip ?_
      refine aq_then ?_
      refine ac_seq ?_
      refine ac_region ?_
      refine al_q (q_loadAll (i := 1) rfl rfl Tryz.isAgg29 Tryz.sizeOf29 rfl) rfl rfl rfl ?_
      refine al_q (q_loadAll (i := 0) rfl rfl Tryz.isAgg35 Tryz.sizeOf35 rfl) rfl rfl rfl ?_
      refine al_q (q_move rfl) rfl rfl rfl ?_
      refine al_call Tryz.call34 (.cons rfl (.cons rfl (.cons rfl .nil))) rfl rfl (fun w3 hs3 => ?_)
      refine (rapplied_any R M RS S A1 l1 c1 ch _ (hM.below hs3.below) (hS.below hs3.below) hf (i1.below hs3.below) hd).mono ?_
      rintro e u3 ⟨A9, c9, rfl, N9, hb_3⟩
      refine ⟨_, rfl, hb_3, ?_⟩
      clear hs3
      refine al_q (q_assign rfl) rfl rfl rfl ?_
      refine al_q (q_assign rfl) rfl rfl rfl ?_
      refine al_end ?_
      refine aq_then ?_
      refine ac_ret ?_
      refine ret2 Tryz.results11 rfl rfl (fun w9 hs => ?_)
      rw [hE]; exact OutL.ok (hs.newT2 (.head _) N9) (by omega) hs.below

set_option maxRecDepth 100000 in
theorem rInduced_any (R : MachR) (M : MachD) (RS : StR) (S : StD) (A1 A2 : Option Addr) (l1 c1 l2 c2 : Nat) (ch pl : List Int) (w : World) (hM : IsM w R M) (hS : IsS w RS S) (i1 : IsT 1 intCells w A1 l1 ch) (i2 : IsT 1 intCells w A2 l2 pl) : Calls Tryz.prog 14 #[(.agg (machCells R M)), (RS.v S.tick), (.slice A1 l1 c1), (.slice A2 l2 c2)] w (OutL w (indE M S ch pl) (indL M ch (subL pl S.C.plasma))) := by
  refine calls_ax (vs := [(.agg (machCells R M)), (RS.v S.tick), (.slice A1 l1 c1), (.slice A2 l2 c2)]) Tryz.func14 rfl rfl ?_
  refine ac_seq ?_
  refine ac_region ?_
  refine al_new (fun b => .pointer (some ⟨b, 0, none⟩)) (r_box rfl rfl) rfl rfl rfl ?_
  intro b1
  refine al_new (fun b => .pointer (some ⟨b, 0, none⟩)) (r_box rfl rfl) rfl rfl rfl ?_
  intro b2
  refine al_q (q_assign rfl) rfl rfl rfl ?_
  refine al_q (q_assign rfl) rfl rfl rfl ?_
  refine al_end ?_
  refine aq_then ?_
  refine ac_seq ?_
  refine ac_seq ?_
  refine ac_region ?_
  refine al_q (q_loadAll (i := 1) rfl rfl Tryz.isAgg29 Tryz.sizeOf29 rfl) rfl rfl rfl ?_
  refine al_q (q_loadAll (i := 0) rfl rfl Tryz.isAgg35 Tryz.sizeOf35 rfl) rfl rfl rfl ?_
  refine al_call Tryz.call32 (.cons rfl (.cons rfl .nil)) rfl rfl (fun w1 hs1 => ?_)
  refine (rvalidState_any R M RS S _ (hM.below hs1.below) (hS.below hs1.below)).mono ?_
  rintro e u1 ⟨rfl, hb_1⟩
  refine ⟨_, rfl, hb_1, ?_⟩
  clear hs1
  refine al_q (q_not rfl) rfl rfl rfl ?_
  refine al_q (q_move rfl) rfl rfl rfl ?_
  refine aq_split 14 rfl (fun hb1 => ?_) (fun hb1 => ?_)
  · have hE : indE M S ch pl = 1 := if_neg (fun h => by rw [h.1] at hb1; cases hb1)
    refine al_skip rfl rfl rfl ?_
    refine al_skip rfl rfl rfl ?_
    refine al_skip rfl rfl rfl ?_
    refine al_skip rfl rfl rfl ?_
    refine al_q (q_pickT rfl rfl) rfl rfl rfl ?_
    refine al_q (q_move rfl) rfl rfl rfl ?_
    refine al_skip rfl rfl rfl ?_
    refine al_skip rfl rfl rfl ?_
    refine al_skip rfl rfl rfl ?_
    refine al_skip rfl rfl rfl ?_
    refine al_q (q_pickT rfl rfl) rfl rfl rfl ?_
    refine al_end ?_
    refine aq_then ?_
    refine ac_condT rfl ?_
    refine ac_seq ?_
    refine ac_region ?_
    refine al_q (q_assign rfl) rfl rfl rfl ?_
    refine al_q (q_assign rfl) rfl rfl rfl ?_
    refine al_end ?_
    refine aq_then ?_
    refine ac_ret ?_
    refine aq_thenR ?_
    refine ret2 Tryz.results14 rfl rfl (fun w9 hs => ?_)
    rw [hE]; exact OutL.bad (by decide) hs.below
  · have hv : validS M S = true := by simpa using hb1
    have hf := fitS_iff.1 hv
    obtain ⟨s1, s2⟩ := smallC hM hf.cur.check
    refine al_q (q_loadAll (i := 1) rfl rfl Tryz.isAgg29 Tryz.sizeOf29 rfl) rfl rfl rfl ?_
    refine al_q (q_move rfl) rfl rfl rfl ?_
    refine al_call Tryz.call33 (.cons rfl (.cons rfl (.cons rfl .nil))) rfl rfl (fun w2 hs2 => ?_)
    refine (rvalidChange_any R M A1 l1 c1 ch 1000000 _ (hM.below hs2.below) (i1.below hs2.below) (by omega)).mono ?_
    rintro e u2 ⟨rfl, hb_2⟩
    refine ⟨_, rfl, hb_2, ?_⟩
    clear hs2
    refine al_q (q_not rfl) rfl rfl rfl ?_
    refine al_q (q_pickF rfl rfl) rfl rfl rfl ?_
    refine al_q (q_move rfl) rfl rfl rfl ?_
    refine aq_split 20 rfl (fun hb2 => ?_) (fun hb2 => ?_)
    · have hE : indE M S ch pl = 1 := if_neg (fun h => by rw [(validSrc_iff.1 h.2).1] at hb2; cases hb2)
      refine al_skip rfl rfl rfl ?_
      refine al_skip rfl rfl rfl ?_
      refine al_skip rfl rfl rfl ?_
      refine al_skip rfl rfl rfl ?_
      refine al_q (q_pickT rfl rfl) rfl rfl rfl ?_
      refine al_end ?_
      refine aq_then ?_
      refine ac_condT rfl ?_
      refine ac_seq ?_
      refine ac_region ?_
      refine al_q (q_assign rfl) rfl rfl rfl ?_
      refine al_q (q_assign rfl) rfl rfl rfl ?_
      refine al_end ?_
      refine aq_then ?_
      refine ac_ret ?_
      refine aq_thenR ?_
      refine ret2 Tryz.results14 rfl rfl (fun w9 hs => ?_)
      rw [hE]; exact OutL.bad (by decide) hs.below
    · have hd1 : validCh M ch 1000000 = true := by simpa using hb2
      refine al_q (q_loadAll (i := 1) rfl rfl Tryz.isAgg29 Tryz.sizeOf29 rfl) rfl rfl rfl ?_
      refine al_q (q_move rfl) rfl rfl rfl ?_
      refine al_call Tryz.call39 (.cons rfl (.cons rfl .nil)) rfl rfl (fun w3 hs3 => ?_)
      refine (rvalidPl_any R M A2 l2 c2 pl _ (hM.below hs3.below) hf.cur.check (i2.below hs3.below)).mono ?_
      rintro e u3 ⟨rfl, hb_3⟩
      refine ⟨_, rfl, hb_3, ?_⟩
      clear hs3
      refine al_q (q_not rfl) rfl rfl rfl ?_
      refine al_q (q_pickF rfl rfl) rfl rfl rfl ?_
      refine al_end ?_
      refine aq_then ?_
      refine ac_cond rfl (fun h1 => ?_) (fun h1 => ?_)
      · have hE : indE M S ch pl = 1 := if_neg (fun h => by rw [fitP_iff.2 (validSrc_iff.1 h.2).2] at h1; cases h1)
        refine ac_seq ?_
        refine ac_region ?_
        refine al_q (q_assign rfl) rfl rfl rfl ?_
        refine al_q (q_assign rfl) rfl rfl rfl ?_
        refine al_end ?_
        refine aq_then ?_
        refine ac_ret ?_
        refine aq_thenR ?_
        refine ret2 Tryz.results14 rfl rfl (fun w9 hs => ?_)
        rw [hE]; exact OutL.bad (by decide) hs.below
      · have hd2 := fitP_iff.1 (show validPl M pl = true by simpa using h1)
        have hE : indE M S ch pl = 0 := if_pos ⟨hv, validSrc_iff.2 ⟨hd1, hd2⟩⟩
        refine ac_skip ?_
        refine aq_then ?_
        refine ac_seq ?_
        refine ac_region ?_
        refine al_q (q_loadAll (i := 1) rfl rfl Tryz.isAgg29 Tryz.sizeOf29 rfl) rfl rfl rfl ?_
        refine al_q (q_loadAll (i := 0) rfl rfl Tryz.isAgg35 Tryz.sizeOf35 rfl) rfl rfl rfl ?_
        refine al_q (q_move rfl) rfl rfl rfl ?_
        refine al_q (q_move rfl) rfl rfl rfl ?_
        refine al_call Tryz.call40 (.cons rfl (.cons rfl (.cons rfl (.cons rfl .nil)))) rfl rfl (fun w4 hs4 => ?_)
        refine (rinduced_any R M RS S A1 A2 l1 c1 l2 c2 ch pl _ (hM.below hs4.below) (hS.below hs4.below) hf (i1.below hs4.below) (i2.below hs4.below) hd1 hd2).mono ?_
        rintro e u4 ⟨A9, c9, rfl, N9, hb_4⟩
        refine ⟨_, rfl, hb_4, ?_⟩
        clear hs4
        refine al_q (q_assign rfl) rfl rfl rfl ?_
        refine al_q (q_assign rfl) rfl rfl rfl ?_
        refine al_end ?_
        refine aq_then ?_
        refine ac_ret ?_
        refine ret2 Tryz.results14 rfl rfl (fun w9 hs => ?_)
        rw [hE]; exact OutL.ok (hs.newT2 (.head _) N9) (by omega) hs.below

theorem sameI_refl (A B : Option Addr) (la ca lb cb : Nat) (xs : List Int) (w : World) (h1 : IsT 1 intCells w A la xs) (h2 : IsT 1 intCells w B lb xs) (l1 : la ≤ 1000000) (l2 : lb ≤ 1000000) : Calls Tryz.prog 12 #[.slice A la ca, .slice B lb cb] w (Ret (.bool true) w) := by
  have := rsame_any A B la ca lb cb xs xs w h1 h2 (by omega) (by omega)
  rwa [decide_eq_true rfl] at this

set_option maxRecDepth 100000 in
theorem induces_walk (R : MachR) (M : MachD) (RS : StR) (S : StD) (A1 A2 : Option Addr) (l1 c1 l2 c2 : Nat) (ch pl : List Int) (w : World) (hM0 : R.la ≤ 1000000000000000 → R.lb ≤ 1000000000000000 → R.lc ≤ 1000000000000000 → R.ld ≤ 1000000000000000 → IsM w R M) (hS0 : RS.Q.la ≤ 1000000000000000 → RS.Q.lb ≤ 1000000000000000 → RS.Q.lc ≤ 1000000000000000 → RS.lh ≤ 1000000000000000 → IsS w RS S) (i1 : IsT 1 intCells w A1 l1 ch) (i2 : IsT 1 intCells w A2 l2 pl) (k1 : l1 ≤ c1 ∧ c1 ≤ 9223372036854775807) (k2 : l2 ≤ c2 ∧ c2 ≤ 9223372036854775807) : Calls Tryz.prog 3 #[(.agg (machCells R M)), (RS.v S.tick), (.agg #[.slice A1 l1 c1, .slice A2 l2 c2])] w (Ret (.bool true) w) := by
  refine calls_ax (vs := [(.agg (machCells R M)), (RS.v S.tick), (.agg #[.slice A1 l1 c1, .slice A2 l2 c2])]) Tryz.func3 rfl rfl ?_
  refine ac_seq ?_
  refine ac_region ?_
  refine al_new (fun b => .pointer (some ⟨b, 0, none⟩)) (r_box rfl rfl) rfl rfl rfl ?_
  intro b1
  refine al_new (fun b => .pointer (some ⟨b, 0, none⟩)) (r_box rfl rfl) rfl rfl rfl ?_
  intro b2
  refine al_new (fun b => .pointer (some ⟨b, 0, none⟩)) (r_box rfl rfl) rfl rfl rfl ?_
  intro b3
  refine al_q (q_assign rfl) rfl rfl rfl ?_
  refine al_end ?_
  refine aq_then ?_
  refine ac_seq ?_
  refine ac_seq ?_
  refine ac_region ?_
  refine al_q (q_loadAll (i := 2) rfl rfl Tryz.isAgg29 Tryz.sizeOf29 rfl) rfl rfl rfl ?_
  refine al_q (q_loadAll (i := 1) rfl rfl Tryz.isAgg35 Tryz.sizeOf35 rfl) rfl rfl rfl ?_
  refine al_call Tryz.call8 (.cons rfl (.cons rfl .nil)) rfl rfl (fun w1 hs1 => ?_)
  refine (brief3_any R M RS S _).mono ?_
  rintro e u1 ⟨bb, rfl, hbb, hb_1⟩
  refine ⟨_, rfl, hb_1, ?_⟩
  clear hs1
  refine al_q (q_not rfl) rfl rfl rfl ?_
  refine al_end ?_
  refine aq_then ?_
  refine ac_cond rfl (fun h1 => ?_) (fun h1 => ?_)
  · skip
    refine ac_seq ?_
    refine ac_region ?_
    refine al_call Tryz.call9 .nil rfl rfl (fun w2 hs2 => ?_)
    refine (awake3_any _).mono ?_
    rintro e u2 ⟨rfl, hb_2⟩
    refine ⟨_, rfl, hb_2, ?_⟩
    clear hs2
    refine al_q (q_assign rfl) rfl rfl rfl ?_
    refine al_end ?_
    refine aq_then ?_
    refine ac_ret ?_
    refine aq_thenR ?_
    refine ret1 Tryz.results3 rfl (fun w9 hs => ?_)
    exact ⟨rfl, hs.below⟩
  · have hB := hbb (by simpa using h1)
    obtain ⟨⟨m1, m2, m3, m4⟩, m5, m6, m7, m8⟩ := hB
    have hM := hM0 (by omega) (by omega) (by omega) (by omega)
    have hS := hS0 (by omega) (by omega) (by omega) (by omega)
    refine ac_skip ?_
    refine aq_then ?_
    refine ac_seq ?_
    refine ac_region ?_
    refine al_q (q_loadAll (i := 2) rfl rfl Tryz.isAgg29 Tryz.sizeOf29 rfl) rfl rfl rfl ?_
    refine al_q (q_loadAll (i := 1) rfl rfl Tryz.isAgg35 Tryz.sizeOf35 rfl) rfl rfl rfl ?_
    refine al_q (q_fieldAddr 0 rfl Tryz.runUnderlying37 rfl Tryz.sizeOf30 (by decide) rfl) rfl rfl rfl ?_
    refine al_q (q_load (i := 0) rfl rfl rfl Tryz.isAgg30) rfl rfl rfl ?_
    refine al_call Tryz.call10 (.cons rfl (.cons rfl (.cons rfl .nil))) rfl rfl (fun w3 hs3 => ?_)
    refine (capplied_any R M RS S A1 l1 c1 ch _ (hM.below hs3.below) (hS.below hs3.below) (i1.below hs3.below)).mono ?_
    rintro e u3 ⟨A_p, n_p, c_p, rfl, I_p, F_p, L_p, hb_3⟩
    refine ⟨_, rfl, hb_3, ?_⟩
    clear hs3
    refine al_q (q_move rfl) rfl rfl rfl ?_
    refine al_q (q_extract rfl rfl) rfl rfl rfl ?_
    refine al_q (q_extract rfl rfl) rfl rfl rfl ?_
    refine al_q (q_assign rfl) rfl rfl rfl ?_
    refine al_q (q_assign rfl) rfl rfl rfl ?_
    refine al_end ?_
    refine aq_then ?_
    refine ac_seq ?_
    refine ac_region ?_
    refine al_q (q_loadAll (i := 2) rfl rfl Tryz.isAgg29 Tryz.sizeOf29 rfl) rfl rfl rfl ?_
    refine al_q (q_loadAll (i := 1) rfl rfl Tryz.isAgg35 Tryz.sizeOf35 rfl) rfl rfl rfl ?_
    refine al_q (q_fieldAddr 0 rfl Tryz.runUnderlying37 rfl Tryz.sizeOf30 (by decide) rfl) rfl rfl rfl ?_
    refine al_q (q_load (i := 0) rfl rfl rfl Tryz.isAgg30) rfl rfl rfl ?_
    refine al_call Tryz.call11 (.cons rfl (.cons rfl (.cons rfl .nil))) rfl rfl (fun w4 hs4 => ?_)
    refine (rApplied_any R M RS S A1 l1 c1 ch _ (hM.below hs4.below) (hS.below hs4.below) (i1.below hs4.below)).mono ?_
    rintro e u4 ⟨A_q, n_q, c_q, rfl, I_q, F_q, L_q, hb_4⟩
    refine ⟨_, rfl, hb_4, ?_⟩
    clear hs4
    refine al_q (q_move rfl) rfl rfl rfl ?_
    refine al_q (q_extract rfl rfl) rfl rfl rfl ?_
    refine al_q (q_extract rfl rfl) rfl rfl rfl ?_
    refine al_q (q_assign rfl) rfl rfl rfl ?_
    refine al_q (q_assign rfl) rfl rfl rfl ?_
    refine al_end ?_
    refine aq_then ?_
    refine ac_seq ?_
    refine ac_seq ?_
    refine ac_region ?_
    refine al_q (q_move rfl) rfl rfl rfl ?_
    refine al_q (q_move rfl) rfl rfl rfl ?_
    refine al_q (q_same (v' := .bool false) (q_neq rfl rfl) (by simp)) rfl rfl rfl ?_
    refine al_q (q_move rfl) rfl rfl rfl ?_
    refine al_q (q_move rfl) rfl rfl rfl ?_
    refine al_q (q_move rfl) rfl rfl rfl ?_
    refine al_call Tryz.call12 (.cons rfl (.cons rfl .nil)) rfl rfl (fun w5 hs5 => ?_)
    refine (sameI_refl A_p A_q n_p c_p n_q c_q _ _ (hs5.isT (.tail _ (.head _)) I_p (fun b o e => Or.inl (F_p b o e))) (hs5.isT (.head _) I_q (fun b o e => Or.inl (F_q b o e))) L_p L_q).mono ?_
    rintro e u5 ⟨rfl, hb_5⟩
    refine ⟨_, rfl, hb_5, ?_⟩
    clear hs5
    refine al_q (q_not rfl) rfl rfl rfl ?_
    refine al_q (q_pickF rfl rfl) rfl rfl rfl ?_
    refine al_end ?_
    refine aq_then ?_
    refine ac_condF rfl ?_
    refine ac_skip ?_
    refine aq_then ?_
    refine ac_seq ?_
    refine ac_region ?_
    refine al_q (q_loadAll (i := 2) rfl rfl Tryz.isAgg29 Tryz.sizeOf29 rfl) rfl rfl rfl ?_
    refine al_q (q_loadAll (i := 1) rfl rfl Tryz.isAgg35 Tryz.sizeOf35 rfl) rfl rfl rfl ?_
    refine al_q (q_fieldAddr 0 rfl Tryz.runUnderlying37 rfl Tryz.sizeOf30 (by decide) rfl) rfl rfl rfl ?_
    refine al_q (q_load (i := 0) rfl rfl rfl Tryz.isAgg30) rfl rfl rfl ?_
    refine al_q (q_fieldAddr 1 rfl Tryz.runUnderlying37 rfl Tryz.sizeOf30 (by decide) rfl) rfl rfl rfl ?_
    refine al_q (q_load (i := 0) rfl rfl rfl Tryz.isAgg30) rfl rfl rfl ?_
    refine al_call Tryz.call13 (.cons rfl (.cons rfl (.cons rfl (.cons rfl .nil)))) rfl rfl (fun w6 hs6 => ?_)
    refine (cinduced_any R M RS S A1 A2 l1 c1 l2 c2 ch pl _ (hM.below hs6.below) (hS.below hs6.below) (i1.below hs6.below) (i2.below hs6.below) k1 k2).mono ?_
    rintro e u6 ⟨A_r, n_r, c_r, rfl, I_r, F_r, L_r, hb_6⟩
    refine ⟨_, rfl, hb_6, ?_⟩
    clear hs6
    refine al_q (q_move rfl) rfl rfl rfl ?_
    refine al_q (q_extract rfl rfl) rfl rfl rfl ?_
    refine al_q (q_extract rfl rfl) rfl rfl rfl ?_
    refine al_q (q_assign rfl) rfl rfl rfl ?_
    refine al_q (q_assign rfl) rfl rfl rfl ?_
    refine al_end ?_
    refine aq_then ?_
    refine ac_seq ?_
    refine ac_region ?_
    refine al_q (q_loadAll (i := 2) rfl rfl Tryz.isAgg29 Tryz.sizeOf29 rfl) rfl rfl rfl ?_
    refine al_q (q_loadAll (i := 1) rfl rfl Tryz.isAgg35 Tryz.sizeOf35 rfl) rfl rfl rfl ?_
    refine al_q (q_fieldAddr 0 rfl Tryz.runUnderlying37 rfl Tryz.sizeOf30 (by decide) rfl) rfl rfl rfl ?_
    refine al_q (q_load (i := 0) rfl rfl rfl Tryz.isAgg30) rfl rfl rfl ?_
    refine al_q (q_fieldAddr 1 rfl Tryz.runUnderlying37 rfl Tryz.sizeOf30 (by decide) rfl) rfl rfl rfl ?_
    refine al_q (q_load (i := 0) rfl rfl rfl Tryz.isAgg30) rfl rfl rfl ?_
    refine al_call Tryz.call14 (.cons rfl (.cons rfl (.cons rfl (.cons rfl .nil)))) rfl rfl (fun w7 hs7 => ?_)
    refine (rInduced_any R M RS S A1 A2 l1 c1 l2 c2 ch pl _ (hM.below hs7.below) (hS.below hs7.below) (i1.below hs7.below) (i2.below hs7.below)).mono ?_
    rintro e u7 ⟨A_u, n_u, c_u, rfl, I_u, F_u, L_u, hb_7⟩
    refine ⟨_, rfl, hb_7, ?_⟩
    clear hs7
    refine al_q (q_move rfl) rfl rfl rfl ?_
    refine al_q (q_extract rfl rfl) rfl rfl rfl ?_
    refine al_q (q_extract rfl rfl) rfl rfl rfl ?_
    refine al_q (q_assign rfl) rfl rfl rfl ?_
    refine al_q (q_assign rfl) rfl rfl rfl ?_
    refine al_end ?_
    refine aq_then ?_
    refine ac_seq ?_
    refine ac_region ?_
    refine al_q (q_move rfl) rfl rfl rfl ?_
    refine al_q (q_move rfl) rfl rfl rfl ?_
    refine al_q (q_same (v' := .bool true) (q_eql rfl rfl) (by simp)) rfl rfl rfl ?_
    refine al_q (q_move rfl) rfl rfl rfl ?_
    refine al_q (q_move rfl) rfl rfl rfl ?_
    refine al_q (q_move rfl) rfl rfl rfl ?_
    refine al_call Tryz.call12 (.cons rfl (.cons rfl .nil)) rfl rfl (fun w8 hs8 => ?_)
    refine (sameI_refl A_r A_u n_r c_r n_u c_u _ _ (hs8.isT (.tail _ (.head _)) I_r (fun b o e => Or.inl (F_r b o e))) (hs8.isT (.head _) I_u (fun b o e => Or.inl (F_u b o e))) L_r L_u).mono ?_
    rintro e u8 ⟨rfl, hb_8⟩
    refine ⟨_, rfl, hb_8, ?_⟩
    clear hs8
    refine al_q (q_pickT rfl rfl) rfl rfl rfl ?_
    refine al_q (q_move rfl) rfl rfl rfl ?_
    refine al_call Tryz.call9 .nil rfl rfl (fun w9 hs9 => ?_)
    refine (awake3_any _).mono ?_
    rintro e u9 ⟨rfl, hb_9⟩
    refine ⟨_, rfl, hb_9, ?_⟩
    clear hs9
    refine al_q (q_pickT rfl rfl) rfl rfl rfl ?_
    refine al_q (q_assign rfl) rfl rfl rfl ?_
    refine al_end ?_
    refine aq_then ?_
    refine aq_keepL [6] (.cons rfl .nil) ?_
    refine ac_ret ?_
    refine ret1 Tryz.results3 rfl (fun w9 hs => ?_)
    exact ⟨rfl, hs.below⟩

end Go.Proofs.YtcjndnadibbcbaaGreat
end
section
/- The frame of the laws over spans: how an argument that is a span or a Pair is opened and shut, over this seat's translation. -/
namespace Go.Proofs.YtcjndnadibbcbaaGreat
set_option linter.unusedVariables false
set_option linter.unusedSimpArgs false
set_option maxRecDepth 100000
open Go.ChangeShapes Go.WideShapes Go.ChangeAt Go.RowKit Go.Joins

theorem own : ownKnob Tryz.prog.godebug = none := by kernel_rfl

theorem cells_int : Tryz.prog.cellsOf 3 = 1 := by kernel_rfl

section
variable {H : Type} {enc : TypeId × Value → H}

end

end Go.Proofs.YtcjndnadibbcbaaGreat
end
section
/- The frame of the laws over pairs: how an argument that is a list of items of n cells is opened, over this seat's translation. -/
namespace Go.Proofs.YtcjndnadibbcbaaGreat
set_option linter.unusedVariables false
set_option linter.unusedSimpArgs false
set_option maxRecDepth 100000
open Go.ChangeShapes Go.WideShapes Go.ChangeAt Go.RowKit Go.Joins Go.Deep

section
variable {H : Type} {enc : TypeId × Value → H}

/-- A list that reads is a list of items, where each item that reads is one. -/
theorem open_isT {α : Type} {E : α → List Value} {n : Nat} (h0 : ∀ x, (E x).length = n) {t e : TypeId} {W : World} {b0 : Nat} {r : Reach} {v : Value} {d : DataW H} {p : List MemPlace}
    (ht : Tryz.prog.underlying t = some (.slice e)) (hc : Tryz.prog.cellsOf e = n) (hn : 0 < n)
    (dec : ∀ (fuel : Nat) (cs : List Value) (y : DataW H × List MemPlace), DataW.trod enc Tryz.prog W 0 (fun _ => true) true fuel e cs = some y → ∃ x : α, cs = E x)
    (hv : Value.okWide Tryz.prog W r b0 t v) (h : DataW.Trod enc Tryz.prog W 0 (fun _ => true) true t v d p) :
    ∃ (A : Option Addr) (len cap : Nat) (zs : List α), v = .slice A len cap ∧ IsT n E W A len zs ∧ len ≤ maxLen ∧ len ≤ cap ∧ cap ≤ maxLen := by
  obtain ⟨a, len, cap, rfl⟩ := okWide_slice ht hv
  obtain ⟨fuel, hf⟩ := h
  rcases open_slice ht hf with ⟨hcs, hx⟩ | ⟨a', len', cap', m, k, D, Pl, hcs, hb, hl, hm, hmm, hx, hi⟩
  · have hcs : [Value.slice a len cap] = [Value.slice none 0 0] := hcs
    injection hcs with hcs _
    injection hcs with e1 e2 e3
    subst e1 e2 e3
    exact ⟨_, _, _, [], rfl, IsT.nil _ _ _ _, Nat.zero_le _, Nat.zero_le _, Nat.zero_le _⟩
  · have hcs : [Value.slice a len cap] = [Value.slice (some a') len' cap'] := hcs
    injection hcs with hcs _
    injection hcs with e1 e2 e3
    subst e1 e2 e3
    simp only [if_true] at hmm
    subst hmm
    have each : ∀ i, i < len → ∃ x : α, ∀ j, j < n → W.cell? (a'.add (i * n + j)) = (E x)[j]? := fun i hil => by
      obtain ⟨cs', h1, h2⟩ := hi i (by omega)
      obtain ⟨x, rfl⟩ := dec _ _ _ h2
      rw [hc] at h1
      obtain ⟨_, _, hcell⟩ := World.cells?_some h1
      refine ⟨x, fun j hj => ?_⟩
      have := hcell j hj
      rwa [add_add] at this
    by_cases hz : len = 0
    · subst hz
      exact ⟨_, _, _, [], rfl, IsT.nil _ _ _ _, Nat.zero_le _, Nat.zero_le _, hm⟩
    · obtain ⟨x0, _⟩ := each 0 (by omega)
      haveI : Inhabited α := ⟨x0⟩
      obtain ⟨z, hz'⟩ := choose_lt each
      refine ⟨_, _, _, (List.range len).map z, rfl, ⟨by simp, fun _ => ?_⟩, Nat.le_trans hl hm, hl, hm⟩
      have c0 := hz' 0 (by omega) 0 hn
      obtain ⟨v0, hv0⟩ : ∃ v0, (E (z 0))[0]? = some v0 := ⟨_, List.getElem?_eq_getElem (by rw [h0]; exact hn)⟩
      rw [hv0] at c0
      have hlt := World.block_lt_of_cell? W _ c0
      have hsp := World.cell?_spot c0
      obtain ⟨b, off, spot⟩ := a'
      have hspot : spot = none := by simpa [Addr.add] using hsp
      subst hspot
      rw [block_add] at hlt
      refine ⟨b, off, rfl, hlt, fun j x hx i v hv => ?_⟩
      have hj : j < len := by
        have := (List.getElem?_eq_some_iff.1 hx).1
        simpa using this
      have hx' : x = z j := by
        rw [List.getElem?_map, List.getElem?_range hj] at hx
        simpa using hx.symm
      subst hx'
      have hin : i < n := by
        have := (List.getElem?_eq_some_iff.1 hv).1
        rwa [h0] at this
      have := hz' j hj i hin
      rw [add_plain, hv] at this
      rw [← this]
      congr 2
      omega

end

end Go.Proofs.YtcjndnadibbcbaaGreat
end
