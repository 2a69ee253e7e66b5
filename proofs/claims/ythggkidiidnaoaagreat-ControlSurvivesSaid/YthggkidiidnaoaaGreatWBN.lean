import Derived.Test.YthggkidiidnaoaaGreatWAA
import Derived.Test.YthggkidiidnaoaaGreatWAC
import Derived.Test.YthggkidiidnaoaaGreatWAJ
import Derived.Test.YthggkidiidnaoaaGreatWAV
import Derived.Test.YthggkidiidnaoaaGreatWAZ
import Derived.Test.YthggkidiidnaoaaGreatWBH
import Derived.Test.YthggkidiidnaoaaGreatWBM
import Derived.Test.YthggkidiidnaoaaGreatRows
import Derived.KernelRfl
import Derived.Laws.StructEq
import Derived.Deep.RegionHeld3
import Derived.Deep.DeepCutAuto
import Derived.Deep.QuietTactic
import Derived.BigQuiet
import Derived.IntWalk
import Derived.Lib.Hide
namespace Go.Proofs.YthggkidiidnaoaaGreat
set_option linter.unusedVariables false
set_option linter.unusedSimpArgs false
section
open Go.RowKit
def dqS (M : MachD) (S : StD) : StD := endD (quenE M S) (stepD M S (zerosI M.coils.length) (dimL S))
def shOk (M : MachD) (S : StD) (bs : Int) (k : Nat) : Bool := wthn (iA (dqS M S).C.shells k) (-bs) bs
def foOk (M : MachD) (S : StD) (bf : Int) (k : Nat) : Bool := wthn (forceE M (dqS M S).C (k : Int)).1 (-bf) bf && wthn (forceE M (dqS M S).C (k : Int)).2.1 (-bf) bf
def survP (M : MachD) (S : StD) (bs bf : Int) : Prop := (∀ k, k < M.shells.length → shOk M S bs k = true) ∧ ∀ k, k < M.coils.length → foOk M S bf k = true
instance (M : MachD) (S : StD) (bs bf : Int) : Decidable (survP M S bs bf) := by
 have h1 : Decidable (∀ k, k < M.shells.length → shOk M S bs k = true) := Nat.decidableBallLT M.shells.length (fun k _ => shOk M S bs k = true)
 have h2 : Decidable (∀ k, k < M.coils.length → foOk M S bf k = true) := Nat.decidableBallLT M.coils.length (fun k _ => foOk M S bf k = true)
 unfold survP; exact instDecidableAnd
def survL (M : MachD) (S : StD) (bs bf : Int) : Bool × Int := if safeB bs bf = true then (if quenE M S = 0 then (decide (survP M S bs bf), 0) else (false, quenE M S)) else (false, 1)
theorem quenE_bad {M : MachD} {S : StD} (h : validS M S = false) : quenE M S = 1 := if_neg (by rw [h]; decide)
theorem quenE_ok {M : MachD} {S : StD} (h : quenE M S = 0) : FitS M S ∧ dqS M S = stepD M S (zerosI M.coils.length) (dimL S) ∧ (dqS M S).C.shells.length = M.shells.length := by
 have hv : validS M S = true := by
  unfold quenE at h; split at h
  ·assumption
  ·cases h
 have e : dqS M S = stepD M S (zerosI M.coils.length) (dimL S) := if_pos h
 exact ⟨fitS_iff.1 hv, e, by rw [e]; exact lst_length _ _⟩
theorem safeB_bd {bs bf : Int} (h : safeB bs bf = true) : (0 ≤ bs ∧ bs ≤ 1000000) ∧ 0 ≤ bf ∧ bf ≤ 1000000000000000 := by
 unfold safeB at h
 rw [Bool.and_eq_true] at h
 exact ⟨wthn_iff.1 h.1, wthn_iff.1 h.2⟩
theorem surv_no {M : MachD} {S : StD} {bs bf : Int} (h1 : safeB bs bf = true) (h2 : quenE M S = 0) (h : ¬ survP M S bs bf) : survL M S bs bf = (false, 0) := by
 unfold survL; rw [if_pos h1, if_pos h2, decide_eq_false h]
theorem surv_yes {M : MachD} {S : StD} {bs bf : Int} (h1 : safeB bs bf = true) (h2 : quenE M S = 0) (h : survP M S bs bf) : survL M S bs bf = (true, 0) := by
 unfold survL; rw [if_pos h1, if_pos h2, decide_eq_true h]
set_option maxRecDepth 100000 in
theorem csurv_any (R : MachR) (M : MachD) (RS : StR) (S : StD) (bs bf : Int) (w : World) (hM : IsM w R M) (hS : IsS w RS S) (q1 : R.la ≤ 1000) (q2 : R.lb ≤ 1000) (q3 : RS.Q.lc ≤ 1000) : Calls Tryz.prog 7 #[(.agg (machCells R M)), (RS.v S.tick), (.agg #[.int .i64 bs, .int .i64 bf])] w (Ret (.tuple #[.bool (survL M S bs bf).1, .int .i64 (survL M S bs bf).2]) w) := by
 refine calls_ax (vs := [(.agg (machCells R M)), (RS.v S.tick), (.agg #[.int .i64 bs, .int .i64 bf])]) Tryz.func7 rfl rfl ?_
 refine ac_seq (ac_region ?_)
 refine al_nb (r_box rfl rfl) ?_
 intro b1
 refine al_nb (r_box rfl rfl) ?_
 intro b2
 refine al_nb (r_box rfl rfl) ?_
 intro b3
 refine al_p (q_assign rfl) (al_p (q_assign rfl) (al_end (aq_then ?_)))
 refine ac_seq (ac_seq (ac_region ?_))
 refine al_p (q_loadAll (i := 0) rfl rfl Tryz.isAgg37 Tryz.sizeOf37 rfl) (al_call Tryz.call17 (.cons rfl .nil) rfl rfl (fun w1 hs1 => ?_))
 refine (safe_any bs bf _).mono ?_
 rintro e u1 ⟨rfl, hb_1⟩
 refine ⟨_, rfl, hb_1, ?_⟩
 clear hs1
 refine al_p (q_not rfl) (al_end (aq_then ?_))
 refine ac_cond rfl (fun h1 => ?_) (fun h1 => ?_)
 ·have hs7 : safeB bs bf = false := by simpa using h1
  have hE : survL M S bs bf = (false, 1) := if_neg (by rw [hs7]; decide)
  refine ac_seq (ac_region ?_)
  refine al_p (q_assign rfl) (al_p (q_assign rfl) (al_end (aq_then ?_)))
  refine ac_ret (aq_thenR (ret2 Tryz.results7 rfl rfl (fun w9 hs => ?_)))
  first | (rw [hE]; exact ⟨rfl, hs.below⟩) | (rw [surv_yes hs7 hq ⟨hall, fun j hj => hF2.2 j om9⟩]; exact ⟨rfl, hs.below⟩)
 ·have hs7 : safeB bs bf = true := by simpa using h1
  obtain ⟨⟨t1, t2⟩, t3, t4⟩ := safeB_bd hs7
  refine ac_skip (aq_then (ac_seq (ac_region ?_)))
  refine al_p (q_loadAll (i := 2) rfl rfl Tryz.isAgg29 Tryz.sizeOf29 rfl) (al_p (q_loadAll (i := 1) rfl rfl Tryz.isAgg35 Tryz.sizeOf35 rfl) (al_call Tryz.call9 (.cons rfl (.cons rfl .nil)) rfl rfl (fun w2 hs2 => ?_)))
  refine (cquench_any R M RS S _ (hM.below hs2.below) (hS.below hs2.below)).mono ?_
  rintro e u2 ⟨x, nx, rfl, k1_, k2_, hb_2⟩
  obtain ⟨rfl, X_x, N_x⟩ := outS_data k1_ k2_
  refine ⟨_, rfl, hb_2, ?_⟩
  clear hs2
  refine al_p (q_move rfl) (al_p (q_extract rfl rfl) (al_p (q_extract rfl rfl) (al_new (fun b => .pointer (some ⟨b, 0, none⟩)) (r_alloc Tryz.zeroValue35 rfl) rfl rfl rfl ?_)))
  intro b4
  refine al_storeAll (i := 0) rfl rfl rfl rfl Tryz.sizeOf35 rfl rfl .k0 rfl (al_p (q_assign rfl) (al_end (aq_then ?_)))
  refine ac_seq (ac_seq (ac_region ?_))
  refine al_p (q_move rfl) (al_p (q_neq rfl rfl) (al_end (aq_then ?_)))
  refine ac_cond rfl (fun h2 => ?_) (fun h2 => ?_)
  ·have hq : quenE M S ≠ 0 := by simpa using h2
   have hE : survL M S bs bf = (false, quenE M S) := by unfold survL; rw [if_pos hs7, if_neg hq]
   refine ac_seq (ac_region ?_)
   refine al_p (q_move rfl) (al_p (q_assign rfl) (al_p (q_assign rfl) (al_end (aq_then ?_))))
   refine ac_ret (aq_thenR (ret2 Tryz.results7 rfl rfl (fun w9 hs => ?_)))
   first | (rw [hE]; exact ⟨rfl, hs.below⟩) | (rw [surv_yes hs7 hq ⟨hall, fun j hj => hF2.2 j om9⟩]; exact ⟨rfl, hs.below⟩)
  ·have hq : quenE M S = 0 := by simpa using h2
   obtain ⟨hf, hd1, hd2⟩ := quenE_ok hq
   have X2 := X_x.cur.shells
   have n1 := hM.coils.1
   have n2 := hM.shells.1
   have n3 : x.Q.lb = M.shells.length := by have h7 : (dqS M S).C.shells.length = x.Q.lb := X2.1; have h8 : (dqS M S).C.shells.length = M.shells.length := (by unfold dqS endD; rw [if_pos hq]; exact lst_length _ _); omega
   refine ac_skip (aq_then (ac_seq (ac_seq (ac_region ?_))))
   refine al_p (q_fieldAddr 1 rfl Tryz.runUnderlying35 rfl Tryz.sizeOf32 de9 rfl) ?_
   refine al_p (q_fieldAddr 2 rfl Tryz.runUnderlying32 rfl Tryz.sizeOf30 de9 rfl) (al_p (q_load (i := 0) rfl rfl rfl Tryz.isAgg30) (al_p (q_lenS rfl Tryz.runUnderlying30) (al_p (q_move rfl) (al_end (aq_then ?_)))))
   refine ac_block (ac_loop (β := Nat) (fun k => k ≤ M.shells.length ∧ ∀ j, j < k → shOk M S bs j = true) (fun k => [(3, (.pointer (some ⟨b1, 0, none⟩))), (5, (.pointer (some ⟨b3, 0, none⟩))), (6, (.bool false)), (7, (.int .i64 0)), (8, (.pointer (some ⟨b4, 0, none⟩))), (30, (.slice x.Q.B x.Q.lb x.Q.cb)), (31, (.int .i64 (x.Q.lb : Int))), (32, (.int .i64 (k : Int)))]) (fun _ => _) (fun k => [(b4, _), (b3, _), (b2, _), (b1, _)]) (fun k => M.shells.length - k) 0 ⟨by omega, fun j h => by omega⟩ ⟨rfl, rfl, rfl, rfl, rfl, rfl, rfl, rfl, trivial⟩ (fun w9 hs => hs) (fun k hF1 => ?_))
   refine ac_seq (ac_region ?_)
   refine al_p (q_lss rfl rfl) (al_end (aq_then ?_))
   refine ac_seq ?_
   refine ac_cond rfl (fun h3 => ?_) (fun h3 => ?_)
   ·have hks : k < M.shells.length := by have := of_decide_eq_true h3; omega
    obtain ⟨b_x, o_x, hA_x, hlt_x, hget_x⟩ := X2.2 om9
    have hx_x : (dqS M S).C.shells[k]? = some (iA (dqS M S).C.shells k) := iA_get (l := (dqS M S).C.shells) (k := k) (by rw [hd2]; exact hks)
    refine ac_skip (aq_then (ac_seq (ac_block (ac_seq (ac_region ?_)))))
    refine al_p (q_indexAddrA (i := k) (o_x + k * 1 + 0) hA_x rfl rfl rfl om9 Tryz.runUnderlying30 Tryz.sizeOf3 rfl) (al_p (q_loadX rfl Tryz.isAgg3 (fun w9 hs => (hs.cellOf (.head _) (N_x.b _ _ hA_x) hlt_x (hget_x k _ hx_x 0 _ rfl)))) (al_p (q_assign rfl) (al_end (aq_then ?_))))
    refine ac_seq (ac_region ?_)
    refine al_p (q_move rfl) ?_
    refine al_p (q_fieldAddr 0 rfl Tryz.runUnderlying37 rfl Tryz.sizeOf3 de9 rfl) (al_p (q_load (i := 1) rfl rfl rfl Tryz.isAgg3) ?_)
    refine al_p (q_neg rfl om9) ?_
    refine al_p (q_fieldAddr 0 rfl Tryz.runUnderlying37 rfl Tryz.sizeOf3 de9 rfl) (al_p (q_load (i := 1) rfl rfl rfl Tryz.isAgg3) (al_call Tryz.call18 (.cons rfl (.cons rfl (.cons rfl .nil))) rfl rfl (fun w3 hs3 => ?_)))
    refine (kwithin_any _ _ _ _).mono ?_
    rintro e u3 ⟨rfl, rfl⟩
    refine ⟨_, rfl, (Below.refl _ _), ?_⟩
    clear hs3
    refine al_p (q_not rfl) (al_end (aq_then ?_))
    refine ac_cond rfl (fun h4 => ?_) (fun h4 => ?_)
    ·have hno : shOk M S bs k = false := by unfold shOk; simpa using h4
     have hE := surv_no hs7 hq (fun h => by have := h.1 k om9; rw [hno] at this; cases this)
     refine ac_seq (ac_region ?_)
     refine al_p (q_assign rfl) (al_p (q_assign rfl) (al_end (aq_then ?_)))
     refine ac_ret (aq_inR (aq_thenR (aq_thenR (aq_inR ?_))))
     refine aq_thenR (ret2 Tryz.results7 rfl rfl (fun w9 hs => ?_))
     first | (rw [hE]; exact ⟨rfl, hs.below⟩) | (rw [surv_yes hs7 hq ⟨hall, fun j hj => hF2.2 j om9⟩]; exact ⟨rfl, hs.below⟩)
    ·have hok : shOk M S bs k = true := by unfold shOk; simpa using h4
     refine ac_skip (aq_inN (aq_then (ac_region ?_)))
     refine al_p (q_add rfl rfl om9) (al_p (q_move rfl) (al_end (aq_then ?_)))
     skip
     refine aq_round (k + 1) om9 ⟨by omega, (fun j h1 => (Nat.lt_or_ge j k).elim (fun g => hF1.2 j g) (fun g => by (have e : j = k := by omega); rw [e]; exact hok))⟩ ⟨rfl, rfl, rfl, rfl, rfl, rfl, rfl, rfl, trivial⟩ (fun w9 hs => (hs.fewer 1 rfl))
   ·have hke : k = M.shells.length := by have := of_decide_eq_false h3; omega
    have hall : ∀ j, j < M.shells.length → shOk M S bs j = true := fun j hj => hF1.2 j om9
    refine ac_exit (aq_thenE (aq_thenE (aq_hit (aq_then ?_))))
    refine ac_seq (ac_seq (ac_region ?_))
    refine al_p (q_fieldAddr 1 rfl Tryz.runUnderlying29 rfl Tryz.sizeOf22 de9 rfl) (al_p (q_load (i := 3) rfl rfl rfl Tryz.isAgg22) (al_p (q_lenS rfl Tryz.runUnderlying22) (al_p (q_move rfl) (al_end (aq_then ?_)))))
    refine ac_block (ac_loop (β := Nat) (fun k => k ≤ M.coils.length ∧ ∀ j, j < k → foOk M S bf j = true) (fun k => [(3, (.pointer (some ⟨b1, 0, none⟩))), (5, (.pointer (some ⟨b3, 0, none⟩))), (6, (.bool false)), (7, (.int .i64 0)), (8, (.pointer (some ⟨b4, 0, none⟩))), (47, (.int .i64 (R.la : Int))), (48, (.int .i64 (k : Int)))]) (fun _ => _) (fun k => [(b4, _), (b3, _), (b2, _), (b1, _)]) (fun k => M.coils.length - k) 0 ⟨by omega, fun j h => by omega⟩ ⟨rfl, rfl, rfl, rfl, rfl, rfl, rfl, trivial⟩ (fun w9 hs => hs) (fun k hF2 => ?_))
    refine ac_seq (ac_region ?_)
    refine al_p (q_lss rfl rfl) (al_end (aq_then ?_))
    refine ac_seq ?_
    refine ac_cond rfl (fun h5 => ?_) (fun h5 => ?_)
    ·have hkc : k < M.coils.length := by have := of_decide_eq_true h5; omega
     refine ac_skip (aq_then (ac_seq (ac_block (ac_seq (ac_region ?_)))))
     refine al_p (q_move rfl) (al_p (q_assign rfl) (al_end (aq_then ?_)))
     refine ac_seq (ac_region ?_)
     refine al_p (q_loadAll (i := 3) rfl rfl Tryz.isAgg29 Tryz.sizeOf29 rfl) ?_
     refine al_p (q_fieldAddr 1 rfl Tryz.runUnderlying35 rfl Tryz.sizeOf32 de9 rfl) (al_p (q_loadSub (i := 0) rfl rfl Tryz.isAgg32 Tryz.sizeOf32 .k1 .k3) (al_p (q_move rfl) (al_call Tryz.call11 (.cons rfl (.cons rfl (.cons rfl .nil))) rfl rfl (fun w4 hs4 => ?_))))
     refine (mforce_any R M x.Q (dqS M S).C (k : Int) _ (hM.below hs4.below) (hs4.isS (.head _) X_x N_x).cur om9 om9).mono ?_
     rintro e u4 ⟨rfl, hb_4⟩
     refine ⟨_, rfl, hb_4, ?_⟩
     clear hs4
     refine al_p (q_move rfl) (al_p (q_extract rfl rfl) (al_p (q_extract rfl rfl) (al_p (q_extract rfl rfl) (al_p (q_assign rfl) ?_))))
     refine al_p (q_assign rfl) (al_p (q_assign rfl) (al_end (aq_then ?_)))
     refine ac_seq (ac_region ?_)
     refine al_p (q_move rfl) ?_
     refine al_p (q_fieldAddr 1 rfl Tryz.runUnderlying37 rfl Tryz.sizeOf3 de9 rfl) (al_p (q_load (i := 1) rfl rfl rfl Tryz.isAgg3) ?_)
     refine al_p (q_neg rfl om9) ?_
     refine al_p (q_fieldAddr 1 rfl Tryz.runUnderlying37 rfl Tryz.sizeOf3 de9 rfl) (al_p (q_load (i := 1) rfl rfl rfl Tryz.isAgg3) (al_call Tryz.call18 (.cons rfl (.cons rfl (.cons rfl .nil))) rfl rfl (fun w5 hs5 => ?_)))
     refine (kwithin_any _ _ _ _).mono ?_
     rintro e u5 ⟨rfl, rfl⟩
     refine ⟨_, rfl, (Below.refl _ _), ?_⟩
     clear hs5
     refine al_p (q_not rfl) (al_p (q_move rfl) ?_)
     refine aq_split 68 rfl (fun hb1 => ?_) (fun hb1 => ?_)
     ·have g68 : wthn (forceE M (dqS M S).C (k : Int)).1 (-bf) bf = false := by simpa using hb1
      have hno : foOk M S bf k = false := by unfold foOk; rw [g68, Bool.false_and]
      have hE := surv_no hs7 hq (fun h => by have := h.2 k om9; rw [hno] at this; cases this)
      refine al_skip rfl rfl rfl (al_skip rfl rfl rfl (al_skip rfl rfl rfl (al_skip rfl rfl rfl (al_skip rfl rfl rfl ?_))))
      refine al_skip rfl rfl rfl (al_skip rfl rfl rfl (al_skip rfl rfl rfl (al_p (q_pickT rfl rfl) (al_end (aq_then ?_)))))
      refine aq_keepL [3, 5, 6, 7, 8, 12, 13, 14, 47, 48, 49, 50, 51, 52, 53, 54, 55, 56, 57, 58, 59, 60, 61, 62, 63, 64, 65, 66, 67, 68, 69, 70, 71, 72, 73, 74, 75, 76, 77] (.cons rfl (.cons rfl (.cons rfl (.cons rfl (.cons rfl (.cons rfl (.cons rfl (.cons rfl (.cons rfl (.cons rfl (.cons rfl (.cons rfl (.cons rfl (.cons rfl (.cons rfl (.cons rfl (.cons rfl (.cons rfl (.cons rfl (.cons rfl (.cons rfl (.cons rfl (.cons rfl (.cons rfl (.cons rfl (.cons rfl (.cons rfl (.cons rfl (.cons rfl (.cons rfl (.cons rfl (.cons rfl (.cons rfl (.cons rfl (.cons rfl (.cons rfl (.cons rfl (.cons rfl (.cons rfl .nil))))))))))))))))))))))))))))))))))))))) ?_
      refine ac_condT rfl (ac_seq (ac_region ?_))
      refine al_p (q_assign rfl) (al_p (q_assign rfl) (al_end (aq_then ?_)))
      refine ac_ret (aq_inR (aq_thenR (aq_thenR (aq_inR ?_))))
      refine aq_thenR (ret2 Tryz.results7 rfl rfl (fun w9 hs => ?_))
      first | (rw [hE]; exact ⟨rfl, hs.below⟩) | (rw [surv_yes hs7 hq ⟨hall, fun j hj => hF2.2 j om9⟩]; exact ⟨rfl, hs.below⟩)
     ·have g68 : wthn (forceE M (dqS M S).C (k : Int)).1 (-bf) bf = true := by simpa using hb1
      refine al_p (q_move rfl) ?_
      refine al_p (q_fieldAddr 1 rfl Tryz.runUnderlying37 rfl Tryz.sizeOf3 de9 rfl) (al_p (q_load (i := 1) rfl rfl rfl Tryz.isAgg3) ?_)
      refine al_p (q_neg rfl om9) ?_
      refine al_p (q_fieldAddr 1 rfl Tryz.runUnderlying37 rfl Tryz.sizeOf3 de9 rfl) (al_p (q_load (i := 1) rfl rfl rfl Tryz.isAgg3) (al_call Tryz.call18 (.cons rfl (.cons rfl (.cons rfl .nil))) rfl rfl (fun w6 hs6 => ?_)))
      refine (kwithin_any _ _ _ _).mono ?_
      rintro e u6 ⟨rfl, rfl⟩
      refine ⟨_, rfl, (Below.refl _ _), ?_⟩
      clear hs6
      refine al_p (q_not rfl) (al_p (q_pickF rfl rfl) (al_end (aq_then ?_)))
      refine ac_cond rfl (fun h6 => ?_) (fun h6 => ?_)
      ·have g77 : wthn (forceE M (dqS M S).C (k : Int)).2.1 (-bf) bf = false := by simpa using h6
       have hno : foOk M S bf k = false := by unfold foOk; rw [g77, Bool.and_false]
       have hE := surv_no hs7 hq (fun h => by have := h.2 k om9; rw [hno] at this; cases this)
       refine ac_seq (ac_region ?_)
       refine al_p (q_assign rfl) (al_p (q_assign rfl) (al_end (aq_then ?_)))
       refine ac_ret (aq_inR (aq_thenR (aq_thenR (aq_inR ?_))))
       refine aq_thenR (ret2 Tryz.results7 rfl rfl (fun w9 hs => ?_))
       first | (rw [hE]; exact ⟨rfl, hs.below⟩) | (rw [surv_yes hs7 hq ⟨hall, fun j hj => hF2.2 j om9⟩]; exact ⟨rfl, hs.below⟩)
      ·have g77 : wthn (forceE M (dqS M S).C (k : Int)).2.1 (-bf) bf = true := by simpa using h6
       have hok : foOk M S bf k = true := by unfold foOk; rw [g68, g77]; rfl
       refine ac_skip (aq_inN (aq_then (ac_region ?_)))
       refine al_p (q_add rfl rfl om9) (al_p (q_move rfl) (al_end (aq_then ?_)))
       skip
       refine aq_round (k + 1) om9 ⟨by omega, (fun j h1 => (Nat.lt_or_ge j k).elim (fun g => hF2.2 j g) (fun g => by (have e : j = k := by omega); rw [e]; exact hok))⟩ ⟨rfl, rfl, rfl, rfl, rfl, rfl, rfl, trivial⟩ (fun w9 hs => (hs.fewer 3 rfl))
    ·have hke2 : k = M.coils.length := by have := of_decide_eq_false h5; omega
     refine ac_exit (aq_thenE (aq_thenE (aq_hit (aq_then ?_))))
     refine ac_seq (ac_region ?_)
     refine al_p (q_assign rfl) (al_p (q_assign rfl) (al_end (aq_then ?_)))
     refine ac_ret (ret2 Tryz.results7 rfl rfl (fun w9 hs => ?_))
     first | (rw [hE]; exact ⟨rfl, hs.below⟩) | (rw [surv_yes hs7 hq ⟨hall, fun j hj => hF2.2 j om9⟩]; exact ⟨rfl, hs.below⟩)
set_option maxRecDepth 100000 in
theorem rsurv_any (R : MachR) (M : MachD) (RS : StR) (S : StD) (bs bf : Int) (w : World) (hM : IsM w R M) (hS : IsS w RS S) (q1 : R.la ≤ 1000) (q2 : R.lb ≤ 1000) (q3 : RS.Q.lc ≤ 1000) : Calls Tryz.prog 8 #[(.agg (machCells R M)), (RS.v S.tick), (.agg #[.int .i64 bs, .int .i64 bf])] w (Ret (.tuple #[.bool (survL M S bs bf).1, .int .i64 (survL M S bs bf).2]) w) := by
 refine calls_ax (vs := [(.agg (machCells R M)), (RS.v S.tick), (.agg #[.int .i64 bs, .int .i64 bf])]) Tryz.func8 rfl rfl ?_
 refine ac_seq (ac_region ?_)
 refine al_nb (r_box rfl rfl) ?_
 intro b1
 refine al_nb (r_box rfl rfl) ?_
 intro b2
 refine al_nb (r_box rfl rfl) ?_
 intro b3
 refine al_p (q_assign rfl) (al_p (q_assign rfl) (al_end (aq_then ?_)))
 refine ac_seq (ac_seq (ac_region ?_))
 refine al_p (q_loadAll (i := 2) rfl rfl Tryz.isAgg29 Tryz.sizeOf29 rfl) (al_p (q_loadAll (i := 1) rfl rfl Tryz.isAgg35 Tryz.sizeOf35 rfl) (al_call Tryz.call19 (.cons rfl (.cons rfl .nil)) rfl rfl (fun w1 hs1 => ?_)))
 refine (rvalidState_any R M RS S _ (hM.below hs1.below) (hS.below hs1.below)).mono ?_
 rintro e u1 ⟨rfl, hb_1⟩
 refine ⟨_, rfl, hb_1, ?_⟩
 clear hs1
 refine al_p (q_not rfl) (al_p (q_move rfl) ?_)
 refine aq_split 19 rfl (fun hb1 => ?_) (fun hb1 => ?_)
 ·have hvb : validS M S = false := by simpa using hb1
  have hE : survL M S bs bf = (false, 1) := by unfold survL; split; rw [quenE_bad hvb]; rfl; rfl
  refine al_skip rfl rfl rfl (al_skip rfl rfl rfl (al_skip rfl rfl rfl (al_p (q_pickT rfl rfl) (al_end (aq_then ?_)))))
  refine ac_condT rfl (ac_seq (ac_region ?_))
  refine al_p (q_assign rfl) (al_p (q_assign rfl) (al_end (aq_then ?_)))
  refine ac_ret (aq_thenR (ret2 Tryz.results8 rfl rfl (fun w9 hs => ?_)))
  first | (rw [hE]; exact ⟨rfl, hs.below⟩) | (rw [surv_yes hs7 hq ⟨hall, fun j hj => hF2.2 j om9⟩]; exact ⟨rfl, hs.below⟩)
 ·skip
  refine al_p (q_loadAll (i := 0) rfl rfl Tryz.isAgg37 Tryz.sizeOf37 rfl) (al_call Tryz.call20 (.cons rfl .nil) rfl rfl (fun w2 hs2 => ?_))
  refine (rsafe_any bs bf _).mono ?_
  rintro e u2 ⟨rfl, hb_2⟩
  refine ⟨_, rfl, hb_2, ?_⟩
  clear hs2
  refine al_p (q_not rfl) (al_p (q_pickF rfl rfl) (al_end (aq_then ?_)))
  refine ac_cond rfl (fun h1 => ?_) (fun h1 => ?_)
  ·have hs7 : safeB bs bf = false := by simpa using h1
   have hE : survL M S bs bf = (false, 1) := if_neg (by rw [hs7]; decide)
   refine ac_seq (ac_region ?_)
   refine al_p (q_assign rfl) (al_p (q_assign rfl) (al_end (aq_then ?_)))
   refine ac_ret (aq_thenR (ret2 Tryz.results8 rfl rfl (fun w9 hs => ?_)))
   first | (rw [hE]; exact ⟨rfl, hs.below⟩) | (rw [surv_yes hs7 hq ⟨hall, fun j hj => hF2.2 j om9⟩]; exact ⟨rfl, hs.below⟩)
  ·have hs7 : safeB bs bf = true := by simpa using h1
   obtain ⟨⟨t1, t2⟩, t3, t4⟩ := safeB_bd hs7
   refine ac_skip (aq_then (ac_seq (ac_region ?_)))
   refine al_p (q_loadAll (i := 2) rfl rfl Tryz.isAgg29 Tryz.sizeOf29 rfl) (al_p (q_loadAll (i := 1) rfl rfl Tryz.isAgg35 Tryz.sizeOf35 rfl) (al_call Tryz.call21 (.cons rfl (.cons rfl .nil)) rfl rfl (fun w3 hs3 => ?_)))
   refine (rQuench_any R M RS S _ (hM.below hs3.below) (hS.below hs3.below) q1 q3).mono ?_
   rintro e u3 ⟨x, nx, rfl, k1_, k2_, hb_3⟩
   obtain ⟨rfl, X_x, N_x⟩ := outS_data k1_ k2_
   refine ⟨_, rfl, hb_3, ?_⟩
   clear hs3
   refine al_p (q_move rfl) (al_p (q_extract rfl rfl) (al_p (q_extract rfl rfl) (al_new (fun b => .pointer (some ⟨b, 0, none⟩)) (r_alloc Tryz.zeroValue35 rfl) rfl rfl rfl ?_)))
   intro b4
   refine al_storeAll (i := 0) rfl rfl rfl rfl Tryz.sizeOf35 rfl rfl .k0 rfl (al_p (q_assign rfl) (al_end (aq_then ?_)))
   refine ac_seq (ac_seq (ac_region ?_))
   refine al_p (q_move rfl) (al_p (q_neq rfl rfl) (al_end (aq_then ?_)))
   refine ac_cond rfl (fun h2 => ?_) (fun h2 => ?_)
   ·have hq : quenE M S ≠ 0 := by simpa using h2
    have hE : survL M S bs bf = (false, quenE M S) := by unfold survL; rw [if_pos hs7, if_neg hq]
    refine ac_seq (ac_region ?_)
    refine al_p (q_move rfl) (al_p (q_assign rfl) (al_p (q_assign rfl) (al_end (aq_then ?_))))
    refine ac_ret (aq_thenR (ret2 Tryz.results8 rfl rfl (fun w9 hs => ?_)))
    first | (rw [hE]; exact ⟨rfl, hs.below⟩) | (rw [surv_yes hs7 hq ⟨hall, fun j hj => hF2.2 j om9⟩]; exact ⟨rfl, hs.below⟩)
   ·have hq : quenE M S = 0 := by simpa using h2
    obtain ⟨hf, hd1, hd2⟩ := quenE_ok hq
    have X2 := X_x.cur.shells
    have n1 := hM.coils.1
    have n2 := hM.shells.1
    have n3 : x.Q.lb = M.shells.length := by have h7 : (dqS M S).C.shells.length = x.Q.lb := X2.1; have h8 : (dqS M S).C.shells.length = M.shells.length := (by unfold dqS endD; rw [if_pos hq]; exact lst_length _ _); omega
    refine ac_skip (aq_then (ac_seq (ac_seq (ac_region ?_))))
    refine al_p (q_assign rfl) (al_end (aq_then ?_))
    refine ac_block (ac_loop (β := Nat) (fun k => k ≤ M.shells.length ∧ ∀ j, j < k → shOk M S bs j = true) (fun k => [(3, (.pointer (some ⟨b1, 0, none⟩))), (5, (.pointer (some ⟨b3, 0, none⟩))), (6, (.bool false)), (7, (.int .i64 0)), (8, (.pointer (some ⟨b4, 0, none⟩))), (10, (.int .i64 (k : Int)))]) (fun _ => _) (fun k => [(b4, _), (b3, _), (b2, _), (b1, _)]) (fun k => M.shells.length - k) 0 ⟨by omega, fun j h => by omega⟩ ⟨rfl, rfl, rfl, rfl, rfl, rfl, trivial⟩ (fun w9 hs => hs) (fun k hF1 => ?_))
    refine ac_seq (ac_seq (ac_region ?_))
    refine al_p (q_move rfl) ?_
    refine al_p (q_fieldAddr 2 rfl Tryz.runUnderlying29 rfl Tryz.sizeOf23 de9 rfl) (al_p (q_load (i := 3) rfl rfl rfl Tryz.isAgg23) (al_p (q_lenS rfl Tryz.runUnderlying23) (al_p (q_lss rfl rfl) (al_end (aq_then ?_)))))
    refine ac_cond rfl (fun h3 => ?_) (fun h3 => ?_)
    ·have hks : k < M.shells.length := by have := of_decide_eq_true h3; omega
     obtain ⟨b_x, o_x, hA_x, hlt_x, hget_x⟩ := X2.2 om9
     have hx_x : (dqS M S).C.shells[k]? = some (iA (dqS M S).C.shells k) := iA_get (l := (dqS M S).C.shells) (k := k) (by rw [hd2]; exact hks)
     refine ac_skip (aq_then (ac_seq (ac_block (ac_seq ?_))))
     refine ac_draw 12 kr9 kr9 ?_
     refine ah_t 0 (fun w9 hs => hs) rfl rfl kr9 (q_fieldAddr 1 rfl Tryz.runUnderlying35 rfl Tryz.sizeOf32 de9 rfl) ?_
     refine ah_t 1 (fun w9 hs => hs) rfl rfl kr9 (q_fieldAddr 2 rfl Tryz.runUnderlying32 rfl Tryz.sizeOf30 de9 rfl) (ah_t 2 (fun w9 hs => hs) rfl rfl kr9 (q_load (i := 0) rfl rfl rfl Tryz.isAgg30) (ah_t 3 (fun w9 hs => hs) rfl rfl kr9 (q_move rfl) ?_))
     refine ah_t 4 (fun w9 hs => hs) rfl rfl kr9 (q_indexAddrA (i := k) (o_x + k * 1 + 0) hA_x rfl rfl rfl om9 Tryz.runUnderlying30 Tryz.sizeOf3 rfl) (ah_t 5 (fun w9 hs => hs) rfl rfl kr9 (q_loadX rfl Tryz.isAgg3 (fun w9 hs => (hs.cellOf (.head _) (N_x.b _ _ hA_x) hlt_x (hget_x k _ hx_x 0 _ rfl)))) ?_)
     refine ah_t 6 (fun w9 hs => hs) rfl rfl kr9 (q_fieldAddr 0 rfl Tryz.runUnderlying37 rfl Tryz.sizeOf3 de9 rfl) (ah_t 7 (fun w9 hs => hs) rfl rfl kr9 (q_load (i := 1) rfl rfl rfl Tryz.isAgg3) ?_)
     refine ah_t 8 (fun w9 hs => hs) rfl rfl kr9 (q_neg rfl om9) ?_
     refine ah_t 9 (fun w9 hs => hs) rfl rfl kr9 (q_fieldAddr 0 rfl Tryz.runUnderlying37 rfl Tryz.sizeOf3 de9 rfl) (ah_t 10 (fun w9 hs => hs) rfl rfl kr9 (q_load (i := 1) rfl rfl rfl Tryz.isAgg3) (ah_one 11 rfl kr9 (fun hok1 hcl1 => ?_)))
     refine al_call Tryz.call22 (.cons rfl (.cons rfl (.cons rfl .nil))) rfl rfl (fun w4 hs4 => ?_)
     refine (rwithin7_any _ _ _ _).mono ?_
     rintro e u4 ⟨rfl, rfl⟩
     refine ⟨_, rfl, (Below.refl _ _), ?_⟩
     clear hs4
     refine al_end (ah_back hok1 hcl1 (fun w9 hs => (hs.fewer 1 rfl)) ?_)
     refine ah_t 12 (fun w9 hs => (hs.fewer 1 rfl)) rfl rfl kr9 (q_not rfl) (ah_done kr9 ?_)
     refine aq_then ?_
     refine ac_cond rfl (fun h4 => ?_) (fun h4 => ?_)
     ·have hno : shOk M S bs k = false := by unfold shOk; simpa using h4
      have hE := surv_no hs7 hq (fun h => by have := h.1 k om9; rw [hno] at this; cases this)
      refine ac_seq (ac_region ?_)
      refine al_p (q_assign rfl) (al_p (q_assign rfl) (al_end (aq_then ?_)))
      refine ac_ret (aq_inR (aq_thenR (aq_thenR (aq_inR ?_))))
      refine aq_thenR (ret2 Tryz.results8 rfl rfl (fun w9 hs => ?_))
      first | (rw [hE]; exact ⟨rfl, hs.below⟩) | (rw [surv_yes hs7 hq ⟨hall, fun j hj => hF2.2 j om9⟩]; exact ⟨rfl, hs.below⟩)
     ·have hok : shOk M S bs k = true := by unfold shOk; simpa using h4
      refine ac_skip (aq_inN (aq_then (ac_region (al_p (q_move rfl) ?_))))
      refine al_p (q_add rfl rfl om9) (al_p (q_assign rfl) (al_end (aq_then ?_)))
      skip
      refine aq_round (k + 1) om9 ⟨by omega, (fun j h1 => (Nat.lt_or_ge j k).elim (fun g => hF1.2 j g) (fun g => by (have e : j = k := by omega); rw [e]; exact hok))⟩ ⟨rfl, rfl, rfl, rfl, rfl, rfl, trivial⟩ (fun w9 hs => (hs.fewer 1 rfl))
    ·have hke : k = M.shells.length := by have := of_decide_eq_false h3; omega
     have hall : ∀ j, j < M.shells.length → shOk M S bs j = true := fun j hj => hF1.2 j om9
     refine ac_exit (aq_thenE (aq_thenE (aq_hit (aq_then ?_))))
     refine ac_seq (ac_seq (ac_region ?_))
     refine al_p (q_assign rfl) (al_end (aq_then ?_))
     refine ac_block (ac_loop (β := Nat) (fun k => k ≤ M.coils.length ∧ ∀ j, j < k → foOk M S bf j = true) (fun k => [(3, (.pointer (some ⟨b1, 0, none⟩))), (5, (.pointer (some ⟨b3, 0, none⟩))), (6, (.bool false)), (7, (.int .i64 0)), (8, (.pointer (some ⟨b4, 0, none⟩))), (11, (.int .i64 (k : Int)))]) (fun _ => _) (fun k => [(b4, _), (b3, _), (b2, _), (b1, _)]) (fun k => M.coils.length - k) 0 ⟨by omega, fun j h => by omega⟩ ⟨rfl, rfl, rfl, rfl, rfl, rfl, trivial⟩ (fun w9 hs => hs) (fun k hF2 => ?_))
     refine ac_seq (ac_seq (ac_region ?_))
     refine al_p (q_move rfl) ?_
     refine al_p (q_fieldAddr 1 rfl Tryz.runUnderlying29 rfl Tryz.sizeOf22 de9 rfl) (al_p (q_load (i := 3) rfl rfl rfl Tryz.isAgg22) (al_p (q_lenS rfl Tryz.runUnderlying22) (al_p (q_lss rfl rfl) (al_end (aq_then ?_)))))
     refine ac_cond rfl (fun h5 => ?_) (fun h5 => ?_)
     ·have hkc : k < M.coils.length := by have := of_decide_eq_true h5; omega
      refine ac_skip (aq_then (ac_seq (ac_block (ac_seq (ac_region ?_)))))
      refine al_p (q_loadAll (i := 3) rfl rfl Tryz.isAgg29 Tryz.sizeOf29 rfl) ?_
      refine al_p (q_fieldAddr 1 rfl Tryz.runUnderlying35 rfl Tryz.sizeOf32 de9 rfl) (al_p (q_loadSub (i := 0) rfl rfl Tryz.isAgg32 Tryz.sizeOf32 .k1 .k3) (al_p (q_move rfl) (al_call Tryz.call23 (.cons rfl (.cons rfl (.cons rfl .nil))) rfl rfl (fun w5 hs5 => ?_))))
      refine (rForce_any R M x.Q (dqS M S).C (k : Int) _ (hM.below hs5.below) (hs5.isS (.head _) X_x N_x).cur).mono ?_
      rintro e u5 ⟨rfl, hb_5⟩
      refine ⟨_, rfl, hb_5, ?_⟩
      clear hs5
      refine al_p (q_move rfl) (al_p (q_extract rfl rfl) (al_p (q_extract rfl rfl) (al_p (q_extract rfl rfl) (al_p (q_assign rfl) ?_))))
      refine al_p (q_assign rfl) (al_p (q_assign rfl) (al_end (aq_then ?_)))
      refine aq_keepL [3, 5, 6, 7, 8, 11, 12, 13, 53, 54, 55, 56, 57, 60, 61, 62, 63, 64, 65, 66, 67, 68] (.cons rfl (.cons rfl (.cons rfl (.cons rfl (.cons rfl (.cons rfl (.cons rfl (.cons rfl (.cons rfl (.cons rfl (.cons rfl (.cons rfl (.cons rfl (.cons rfl (.cons rfl (.cons rfl (.cons rfl (.cons rfl (.cons rfl (.cons rfl (.cons rfl (.cons rfl .nil)))))))))))))))))))))) ?_
      refine ac_seq (ac_region ?_)
      refine al_p (q_move rfl) ?_
      refine al_p (q_fieldAddr 1 rfl Tryz.runUnderlying37 rfl Tryz.sizeOf3 de9 rfl) (al_p (q_load (i := 1) rfl rfl rfl Tryz.isAgg3) ?_)
      refine al_p (q_neg rfl om9) ?_
      refine al_p (q_fieldAddr 1 rfl Tryz.runUnderlying37 rfl Tryz.sizeOf3 de9 rfl) (al_p (q_load (i := 1) rfl rfl rfl Tryz.isAgg3) (al_call Tryz.call22 (.cons rfl (.cons rfl (.cons rfl .nil))) rfl rfl (fun w6 hs6 => ?_)))
      refine (rwithin7_any _ _ _ _).mono ?_
      rintro e u6 ⟨rfl, rfl⟩
      refine ⟨_, rfl, (Below.refl _ _), ?_⟩
      clear hs6
      refine al_p (q_not rfl) (al_p (q_move rfl) ?_)
      refine aq_split 77 rfl (fun hb2 => ?_) (fun hb2 => ?_)
      ·have g68 : wthn (forceE M (dqS M S).C (k : Int)).1 (-bf) bf = false := by simpa using hb2
       have hno : foOk M S bf k = false := by unfold foOk; rw [g68, Bool.false_and]
       have hE := surv_no hs7 hq (fun h => by have := h.2 k om9; rw [hno] at this; cases this)
       refine al_skip rfl rfl rfl (al_skip rfl rfl rfl (al_skip rfl rfl rfl (al_skip rfl rfl rfl (al_skip rfl rfl rfl ?_))))
       refine al_skip rfl rfl rfl (al_skip rfl rfl rfl (al_skip rfl rfl rfl (al_p (q_pickT rfl rfl) (al_end (aq_then ?_)))))
       refine ac_condT rfl (ac_seq (ac_region ?_))
       refine al_p (q_assign rfl) (al_p (q_assign rfl) (al_end (aq_then ?_)))
       refine ac_ret (aq_inR (aq_thenR (aq_thenR (aq_inR ?_))))
       refine aq_thenR (ret2 Tryz.results8 rfl rfl (fun w9 hs => ?_))
       first | (rw [hE]; exact ⟨rfl, hs.below⟩) | (rw [surv_yes hs7 hq ⟨hall, fun j hj => hF2.2 j om9⟩]; exact ⟨rfl, hs.below⟩)
      ·have g68 : wthn (forceE M (dqS M S).C (k : Int)).1 (-bf) bf = true := by simpa using hb2
       refine al_p (q_move rfl) ?_
       refine al_p (q_fieldAddr 1 rfl Tryz.runUnderlying37 rfl Tryz.sizeOf3 de9 rfl) (al_p (q_load (i := 1) rfl rfl rfl Tryz.isAgg3) ?_)
       refine al_p (q_neg rfl om9) ?_
       refine al_p (q_fieldAddr 1 rfl Tryz.runUnderlying37 rfl Tryz.sizeOf3 de9 rfl) (al_p (q_load (i := 1) rfl rfl rfl Tryz.isAgg3) (al_call Tryz.call22 (.cons rfl (.cons rfl (.cons rfl .nil))) rfl rfl (fun w7 hs7 => ?_)))
       refine (rwithin7_any _ _ _ _).mono ?_
       rintro e u7 ⟨rfl, rfl⟩
       refine ⟨_, rfl, (Below.refl _ _), ?_⟩
       clear hs7
       refine al_p (q_not rfl) (al_p (q_pickF rfl rfl) (al_end (aq_then ?_)))
       refine ac_cond rfl (fun h6 => ?_) (fun h6 => ?_)
       ·have g77 : wthn (forceE M (dqS M S).C (k : Int)).2.1 (-bf) bf = false := by simpa using h6
        have hno : foOk M S bf k = false := by unfold foOk; rw [g77, Bool.and_false]
        have hE := surv_no hs7 hq (fun h => by have := h.2 k om9; rw [hno] at this; cases this)
        refine ac_seq (ac_region ?_)
        refine al_p (q_assign rfl) (al_p (q_assign rfl) (al_end (aq_then ?_)))
        refine ac_ret (aq_inR (aq_thenR (aq_thenR (aq_inR ?_))))
        refine aq_thenR (ret2 Tryz.results8 rfl rfl (fun w9 hs => ?_))
        first | (rw [hE]; exact ⟨rfl, hs.below⟩) | (rw [surv_yes hs7 hq ⟨hall, fun j hj => hF2.2 j om9⟩]; exact ⟨rfl, hs.below⟩)
       ·have g77 : wthn (forceE M (dqS M S).C (k : Int)).2.1 (-bf) bf = true := by simpa using h6
        have hok : foOk M S bf k = true := by unfold foOk; rw [g68, g77]; rfl
        refine ac_skip (aq_inN (aq_then (ac_region (al_p (q_move rfl) ?_))))
        refine al_p (q_add rfl rfl om9) (al_p (q_assign rfl) (al_end (aq_then ?_)))
        skip
        refine aq_round (k + 1) om9 ⟨by omega, (fun j h1 => (Nat.lt_or_ge j k).elim (fun g => hF2.2 j g) (fun g => by (have e : j = k := by omega); rw [e]; exact hok))⟩ ⟨rfl, rfl, rfl, rfl, rfl, rfl, trivial⟩ (fun w9 hs => (hs.fewer 3 rfl))
     ·have hke2 : k = M.coils.length := by have := of_decide_eq_false h5; omega
      refine ac_exit (aq_thenE (aq_thenE (aq_hit (aq_then ?_))))
      refine ac_seq (ac_region ?_)
      refine al_p (q_assign rfl) (al_p (q_assign rfl) (al_end (aq_then ?_)))
      refine ac_ret (ret2 Tryz.results8 rfl rfl (fun w9 hs => ?_))
      first | (rw [hE]; exact ⟨rfl, hs.below⟩) | (rw [surv_yes hs7 hq ⟨hall, fun j hj => hF2.2 j om9⟩]; exact ⟨rfl, hs.below⟩)
end
section
open Go.RowKit
set_option maxHeartbeats 2000000 in
theorem indexQuant1 (k : Nat) (c0 : Nat) (p : QuantD → Bool) (A : Option Addr) (len cap : Nat) (zs : List QuantD) (w : World) (hI : IsT 2 QuantD.cells w A len zs) (hl : len ≤ 1000000000000000)
  (hE : ∀ (args : Array Value) (W : World), (callFunc k args).run Tryz.prog W = .ok (.enter k args) W)
  (hk : ∀ (x : QuantD) (W : World), x ∈ zs → Below w.heap.size w W → Calls Tryz.prog k #[QuantD.v x, .pointer (some ⟨c0, 0, none⟩)] W (Ret (.bool (p x)) W)) :
  Calls Tryz.prog 110 #[.slice A len cap, .func (.func k) #[] #[.pointer (some ⟨c0, 0, none⟩)]] w (Ret (.int .i64 (idxL p zs)) w) := by
 have HI := Lib.hid hI
 have HK := Lib.hid hk
 have HG : Hid (idxL p zs = idxGo p zs 0) := Lib.hid rfl
 generalize idxL p zs = G at *
 clear hI hk
 go_enter Tryz.func110, Tryz.ntmps110
 go_wp2_with fail
 go_loopw [5, 8] (fun _ i wr => ∃ j : Nat, j ≤ len ∧ i = .int .i64 j ∧ Hid (idxGo p (zs.drop j) j = G) ∧ Below w.heap.size w wr) (fun _ i _ => len - (intOf i).toNat)
 case atStart => exact ⟨0, Nat.zero_le _, rfl, Lib.hid HG.out.symm, Below.refl _ _⟩
 case round =>
  obtain ⟨j, hj, rfl, hG, hB⟩ := hrel
  by_cases hlt : j < len
  ·obtain ⟨hzl, hcl⟩ := HI.out.below hB
   obtain ⟨b, o, rfl, hb0, hcl⟩ := hcl om9
   obtain ⟨x, hx⟩ : ∃ x, zs[j]? = some x := ⟨_, List.getElem?_eq_getElem om9⟩
   have HM := Lib.hid (List.mem_of_getElem? hx)
   have HS := Lib.hid (idxGo_drop p hx (j : Int))
   have x0 : wr.cell? ⟨b, o + j * 2, none⟩ = some (.string x.word) := by have h := hcl j x hx 0 _ rfl; simpa using h
   have x1 : wr.cell? ⟨b, o + j * 2 + 1, none⟩ = some (.func (.func x.k) #[] #[]) := by have h := hcl j x hx 1 _ rfl; simpa using h
   have hsz := hB.size
   have HC := Lib.hid (HK.out x)
   clear hcl hx hzl
   cases hp : p x
   ·have HN : Hid (idxGo p (zs.drop (j + 1)) ((j + 1 : Nat) : Int) = G) := Lib.hid (by rw [← hG.out, HS.out, hp]; rfl)
    have HC := Lib.hid (show ∀ W, Below w.heap.size w W → Calls Tryz.prog k #[QuantD.v x, .pointer (some ⟨c0, 0, none⟩)] W (Ret (.bool false) W) from fun W h => by have := HC.out W HM.out h; rwa [hp] at this)
    clear hp
    go_wp2_with ((with_reducible show Calls _ k _ _ _); refine (HC.out _ ra9).mono ?_; rintro e w1 ⟨rfl, hb⟩; have hB1 : Below w.heap.size w w1 := Below.trans ra9 (hb.mono om9))
    go_roundw
    case rel => exact ⟨j + 1, by omega, by go_num, HN, by (repeat with_reducible assumption)⟩
    case measure => simp [intOf]; omega
   ·have HN : Hid ((j : Int) = G) := Lib.hid (by rw [← hG.out, HS.out, hp]; rfl)
    have HC := Lib.hid (show ∀ W, Below w.heap.size w W → Calls Tryz.prog k #[QuantD.v x, .pointer (some ⟨c0, 0, none⟩)] W (Ret (.bool true) W) from fun W h => by have := HC.out W HM.out h; rwa [hp] at this)
    clear hp
    go_wp2_with ((with_reducible show Calls _ k _ _ _); refine (HC.out _ ra9).mono ?_; rintro e w1 ⟨rfl, hb⟩; have hB1 : Below w.heap.size w w1 := Below.trans ra9 (hb.mono om9))
    go_ret
    exact ⟨by rw [← HN.out]; rfl, by (repeat with_reducible assumption)⟩
  ·have HN : Hid ((-1 : Int) = G) := Lib.hid (by rw [← hG.out, List.drop_of_length_le (by rw [HI.out.1]; omega)]; rfl)
   go_wp2
   go_ret
   exact ⟨by rw [← HN.out]; rfl, hB⟩
set_option maxHeartbeats 1000000 in
theorem containsQuant1 (k : Nat) (c0 : Nat) (p : QuantD → Bool) (A : Option Addr) (len cap : Nat) (zs : List QuantD) (w : World) (hI : IsT 2 QuantD.cells w A len zs) (hl : len ≤ 1000000000000000)
  (hE : ∀ (args : Array Value) (W : World), (callFunc k args).run Tryz.prog W = .ok (.enter k args) W)
  (hk : ∀ (x : QuantD) (W : World), x ∈ zs → Below w.heap.size w W → Calls Tryz.prog k #[QuantD.v x, .pointer (some ⟨c0, 0, none⟩)] W (Ret (.bool (p x)) W)) :
  Calls Tryz.prog 58 #[.slice A len cap, .func (.func k) #[] #[.pointer (some ⟨c0, 0, none⟩)]] w (Ret (.bool (zs.any p)) w) := by
 have HI := Lib.hid (indexQuant1 k c0 p A len cap zs w hI hl hE hk)
 have HA := Lib.hid (idxL_nonneg p zs)
 obtain ⟨b1, b2⟩ := idxL_bd p zs
 rw [hI.1] at b2
 clear hI hE hk
 generalize idxL p zs = G at *
 go_enter Tryz.func58, Tryz.ntmps58
 go_wp2_with (go_at_call 110; refine HI.out.mono ?_; rintro e w1 ⟨rfl, hb⟩)
 go_ret
 exact ⟨by rw [← HA.out]; rfl, hb⟩
end
section
abbrev Tri := Int × Int × Int
def gLo (x : Tri) : Int := if 0 < x.1 then flo (x.2.1 * 1000) x.1 else if x.1 < 0 then flo (x.2.2 * 1000) x.1 else if x.2.1 ≤ 0 ∧ 0 ≤ x.2.2 then -1000000000 else 1
def gHi (x : Tri) : Int := if 0 < x.1 then cei (x.2.2 * 1000) x.1 else if x.1 < 0 then cei (x.2.1 * 1000) x.1 else if x.2.1 ≤ 0 ∧ 0 ≤ x.2.2 then 1000000000 else 0
def nar (s : Int × Int) (x : Tri) : Int × Int := (max s.1 (gLo x), min s.2 (gHi x))
def left (s : Int × Int) : List Tri → Int × Int
 | [] => s
 | x :: r => left (nar s x) r
def first (s : Int × Int) : List Tri → Int → Int
 | [], _ => -1
 | x :: r, i => if vld (nar s x).1 (nar s x).2 = true then first (nar s x) r (i + 1) else i
def Lies (g : Int) (x : Tri) : Prop := x.2.1 * 1000 ≤ x.1 * g ∧ x.1 * g ≤ x.2.2 * 1000
end
section
open Go.RowKit
end
section
open Go.RowKit
theorem resS {fn : Func} {p : Tmp} (h : fn.results = #[.cell p 55]) (tmps : Array Value) (W : World) (b : Nat) (x y : Value)
  (hp : tmps.getD p undef = .pointer (some ⟨b, 0, none⟩)) (h0 : (W.cell? ⟨b, 0, none⟩).isSome = true) (h1 : (W.cell? ⟨b, 1, none⟩).isSome = true) :
  (results fn tmps).run Tryz.prog ((W.setCell ⟨b, 0, none⟩ x).setCell ⟨b, 1, none⟩ y) = .ok (.agg #[x, y]) ((W.setCell ⟨b, 0, none⟩ x).setCell ⟨b, 1, none⟩ y) := by
 have n1 : (⟨b, 1, none⟩ : Addr) ≠ ⟨b, 0, none⟩ := by simp
 have n0 : (⟨b, 0, none⟩ : Addr) ≠ ⟨b, 1, none⟩ := by simp
 have e1 : ((W.setCell ⟨b, 0, none⟩ x).setCell ⟨b, 1, none⟩ y).cell? ⟨b, 0, none⟩ = some x :=
  (World.cell?_setCell_other _ _ _ _ n1).trans (World.cell?_setCell_same' _ _ _ h0)
 have e2 : ((W.setCell ⟨b, 0, none⟩ x).setCell ⟨b, 1, none⟩ y).cell? ⟨b, 1, none⟩ = some y :=
  World.cell?_setCell_same' _ _ _ (by rw [World.cell?_setCell_other _ _ _ _ n0]; exact h1)
 have hp' : tmps[p]?.getD undef = .pointer (some ⟨b, 0, none⟩) := by simpa using hp
 simp only [results, h]
 simp [Sem.run_bind, Result.andThen, go_sem, hp', e1, e2]
theorem resP {fn : Func} {p : Tmp} (h : fn.results = #[.cell p 55]) (tmps : Array Value) (W : World) (b : Nat) (x y : Value)
  (hp : tmps.getD p undef = .pointer (some ⟨b, 0, none⟩)) (h0 : W.cell? ⟨b, 0, none⟩ = some x) (h1 : W.cell? ⟨b, 1, none⟩ = some y) :
  (results fn tmps).run Tryz.prog W = .ok (.agg #[x, y]) W := by
 have hp' : tmps[p]?.getD undef = .pointer (some ⟨b, 0, none⟩) := by simpa using hp
 simp only [results, h]
 simp [Sem.run_bind, Result.andThen, go_sem, hp', h0, h1]
end
end Go.Proofs.YthggkidiidnaoaaGreat
