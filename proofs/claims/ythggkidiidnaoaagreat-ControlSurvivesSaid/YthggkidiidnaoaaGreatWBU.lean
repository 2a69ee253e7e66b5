import Derived.Test.YthggkidiidnaoaaGreatWAA
import Derived.Test.YthggkidiidnaoaaGreatWAJ
import Derived.Test.YthggkidiidnaoaaGreatWAL
import Derived.Test.YthggkidiidnaoaaGreatWAO
import Derived.Test.YthggkidiidnaoaaGreatWBH
import Derived.Test.YthggkidiidnaoaaGreatWBN
import Derived.Test.YthggkidiidnaoaaGreatWBQ
import Derived.Test.YthggkidiidnaoaaGreatWBT
import Derived.Test.YthggkidiidnaoaaGreatRows
import Derived.KernelRfl
import Derived.Laws.StructEq
import Derived.ProofKit
import Derived.OpenShut
import Derived.Lib.SmallJoins
import Derived.Deep.Slices
import Derived.Carry
namespace Go.Proofs.YthggkidiidnaoaaGreat
set_option linter.unusedVariables false
set_option linter.unusedSimpArgs false
section
open Go.RowKit
theorem surv_tells {M : MachD} {S : StD} {bs bf : Int} (h : (survL M S bs bf).1 = true) : safeB bs bf = true ∧ quenE M S = 0 ∧ survP M S bs bf := by
 unfold survL at h
 split at h
 ·rename_i h1
  split at h
  ·rename_i h2
   exact ⟨h1, h2, of_decide_eq_true h⟩
  ·cases h
 ·cases h
theorem quenE_tick {M : MachD} {S : StD} (h : quenE M S = 0) : S.tick < 1000000000 := by
 unfold quenE at h; split at h
 ·have := repE_zero h; omega
 ·cases h
theorem force_fine {M : MachD} {C : CurD} (h : Fit2 M C) {k : Nat} (hk : k < M.coils.length) : (forceE M C (k : Int)).2.2 = 0 := by
 have e1 : M.coils[((k : Int)).toNat]? = some (cA M k) := cA_get hk
 have e2 : C.coils[((k : Int)).toNat]? = some (iA C.coils k) := iA_get (by have := h.coils.1; omega)
 unfold forceE
 rw [if_pos (fit2_iff.2 h), if_pos (wthn_iff.2 ⟨by omega, by omega⟩), e1, e2]
theorem dim_total (S : StD) : tot 0 (dimL S) = 0 := by
 have t0 : ∀ k : Nat, tot 0 (List.replicate k 0) = 0 := fun k => by
  induction k with
  | zero => rfl
  | succ k ih => rw [List.replicate_succ]; show tot (wrap64 (0 + 0)) _ = 0; rw [show wrap64 (0 + 0) = 0 from by (first | rfl | simp [wrap64] | (unfold wrap64; rfl))]; exact ih
 exact t0 _
set_option maxRecDepth 100000 in
theorem survives_walk (R : MachR) (M : MachD) (RS : StR) (S : StD) (bs bf : Int) (w : World) (hM0 : R.la ≤ 1000000000000000 → R.lb ≤ 1000000000000000 → R.lc ≤ 1000000000000000 → R.ld ≤ 1000000000000000 → IsM w R M) (hS0 : RS.Q.la ≤ 1000000000000000 → RS.Q.lb ≤ 1000000000000000 → RS.Q.lc ≤ 1000000000000000 → RS.lh ≤ 1000000000000000 → IsS w RS S) : Calls Tryz.prog 3 #[(.agg (machCells R M)), (RS.v S.tick), (.agg #[.int .i64 bs, .int .i64 bf])] w (Ret (.bool true) w) := by
 refine calls_ax (vs := [(.agg (machCells R M)), (RS.v S.tick), (.agg #[.int .i64 bs, .int .i64 bf])]) Tryz.func3 rfl rfl ?_
 refine ac_seq (ac_region ?_)
 refine al_nb (r_box rfl rfl) ?_
 intro b1
 refine al_nb (r_box rfl rfl) ?_
 intro b2
 refine al_nb (r_box rfl rfl) ?_
 intro b3
 refine al_p (q_assign rfl) (al_end (aq_then ?_))
 refine ac_seq (ac_seq (ac_region ?_))
 refine al_call Tryz.call4 .nil rfl rfl (fun w1 hs1 => ?_)
 refine (awake7z_any _).mono ?_
 rintro e u1 ⟨rfl, hb_1⟩
 refine ⟨_, rfl, hb_1, ?_⟩
 clear hs1
 refine al_p (q_not rfl) (al_end (aq_then ?_))
 refine ac_condF rfl (ac_skip (aq_then (ac_seq (ac_seq (ac_region ?_)))))
 refine al_p (q_loadAll (i := 2) rfl rfl Tryz.isAgg29 Tryz.sizeOf29 rfl) (al_call Tryz.call5 (.cons rfl .nil) rfl rfl (fun w2 hs2 => ?_))
 refine (large_any R M _).mono ?_
 rintro e u2 ⟨rfl, hb_2⟩
 refine ⟨_, rfl, hb_2, ?_⟩
 clear hs2
 refine al_p (q_move rfl) ?_
 refine aq_split 21 rfl (fun hb1 => ?_) (fun hb1 => ?_)
 ·skip
  refine al_skip rfl rfl rfl (al_skip rfl rfl rfl (al_p (q_pickT rfl rfl) (al_end (aq_then ?_))))
  refine ac_condT rfl (ac_seq (ac_region ?_))
  refine al_p (q_assign rfl) (al_end (aq_then ?_))
  refine ac_ret (aq_thenR (ret1 Tryz.results3 rfl (fun w9 hs => ?_)))
  exact ⟨rfl, hs.below⟩
 ·obtain ⟨u1, u2, u3, u4, u5⟩ := largeB_bd (by simpa using hb1)
  refine al_p (q_loadAll (i := 1) rfl rfl Tryz.isAgg35 Tryz.sizeOf35 rfl) (al_call Tryz.call6 (.cons rfl (.cons rfl (.cons rfl .nil))) rfl rfl (fun w3 hs3 => ?_))
  refine (heavy_any RS S none none 0 0 0 0 _).mono ?_
  rintro e u3 ⟨hb7, rfl, hhb, hb_3⟩
  refine ⟨_, rfl, hb_3, ?_⟩
  clear hs3
  refine al_p (q_pickF rfl rfl) (al_end (aq_then ?_))
  refine ac_cond rfl (fun h1 => ?_) (fun h1 => ?_)
  ·skip
   refine ac_seq (ac_region ?_)
   refine al_p (q_assign rfl) (al_end (aq_then ?_))
   refine ac_ret (aq_thenR (ret1 Tryz.results3 rfl (fun w9 hs => ?_)))
   exact ⟨rfl, hs.below⟩
  ·obtain ⟨⟨v1, v2, v3, v4, v5⟩, v6, v7⟩ := hhb (by simpa using h1)
   have hM := hM0 om9 om9 om9 om9
   have hS := hS0 om9 om9 om9 om9
   refine ac_skip (aq_then (ac_seq (ac_region ?_)))
   refine al_p (q_loadAll (i := 2) rfl rfl Tryz.isAgg29 Tryz.sizeOf29 rfl) (al_p (q_loadAll (i := 1) rfl rfl Tryz.isAgg35 Tryz.sizeOf35 rfl) (al_p (q_loadAll (i := 0) rfl rfl Tryz.isAgg37 Tryz.sizeOf37 rfl) (al_call Tryz.call7 (.cons rfl (.cons rfl (.cons rfl .nil))) rfl rfl (fun w4 hs4 => ?_))))
   refine (csurv_any R M RS S bs bf _ (hM.below hs4.below) (hS.below hs4.below) om9 om9 om9).mono ?_
   rintro e u4 ⟨rfl, hb_4⟩
   refine ⟨_, rfl, hb_4, ?_⟩
   clear hs4
   refine al_p (q_move rfl) (al_p (q_extract rfl rfl) (al_p (q_extract rfl rfl) (al_p (q_assign rfl) (al_p (q_assign rfl) ?_))))
   refine al_end (aq_then ?_)
   refine ac_seq (ac_region ?_)
   refine al_p (q_loadAll (i := 2) rfl rfl Tryz.isAgg29 Tryz.sizeOf29 rfl) (al_p (q_loadAll (i := 1) rfl rfl Tryz.isAgg35 Tryz.sizeOf35 rfl) (al_p (q_loadAll (i := 0) rfl rfl Tryz.isAgg37 Tryz.sizeOf37 rfl) (al_call Tryz.call8 (.cons rfl (.cons rfl (.cons rfl .nil))) rfl rfl (fun w5 hs5 => ?_))))
   refine (rsurv_any R M RS S bs bf _ (hM.below hs5.below) (hS.below hs5.below) om9 om9 om9).mono ?_
   rintro e u5 ⟨rfl, hb_5⟩
   refine ⟨_, rfl, hb_5, ?_⟩
   clear hs5
   refine al_p (q_move rfl) (al_p (q_extract rfl rfl) (al_p (q_extract rfl rfl) (al_p (q_assign rfl) (al_p (q_assign rfl) ?_))))
   refine al_end (aq_then ?_)
   refine ac_seq (ac_seq (ac_region ?_))
   refine al_p (q_move rfl) (al_p (q_move rfl) ?_)
   refine al_p (q_same (v' := .bool false) (q_neqB rfl rfl Tryz.underlying4) (by simp)) (al_p (q_move rfl) (al_p (q_move rfl) (al_p (q_move rfl) ?_)))
   refine al_p (q_same (v' := .bool false) (q_neq rfl rfl) (by simp)) (al_p (q_pickF rfl rfl) (al_end (aq_then ?_)))
   refine ac_condF rfl (ac_skip (aq_then (ac_seq (ac_seq (ac_region ?_)))))
   refine al_p (q_move rfl) (al_p (q_not rfl) (al_end (aq_then ?_)))
   refine ac_cond rfl (fun h2 => ?_) (fun h2 => ?_)
   ·skip
    refine ac_seq (ac_region ?_)
    refine al_p (q_assign rfl) (al_end (aq_then ?_))
    refine ac_ret (aq_thenR (ret1 Tryz.results3 rfl (fun w9 hs => ?_)))
    exact ⟨rfl, hs.below⟩
   ·have hsv : (survL M S bs bf).1 = true := by simpa using h2
    obtain ⟨hs7, hq, hsp⟩ := surv_tells hsv
    obtain ⟨⟨t1, t2⟩, t3, t4⟩ := safeB_bd hs7
    obtain ⟨hf, hd1, hd2⟩ := quenE_ok hq
    have hfd : Fit2 M (dqS M S).C := by rw [hd1]; exact (step_fit hf (quenE_tick hq) (fitP_iff.1 (dim_ok hf))).cur
    have htt : tot 0 (dqS M S).C.plasma = 0 := by rw [hd1]; exact dim_total S
    have n1 := hM.coils.1
    refine ac_skip (aq_then (ac_seq (ac_region ?_)))
    refine al_p (q_loadAll (i := 2) rfl rfl Tryz.isAgg29 Tryz.sizeOf29 rfl) (al_p (q_loadAll (i := 1) rfl rfl Tryz.isAgg35 Tryz.sizeOf35 rfl) (al_call Tryz.call9 (.cons rfl (.cons rfl .nil)) rfl rfl (fun w6 hs6 => ?_)))
    refine (cquench_any R M RS S _ (hM.below hs6.below) (hS.below hs6.below)).mono ?_
    rintro e u6 ⟨x, nx, rfl, k1_, k2_, hb_6⟩
    obtain ⟨rfl, X_x, N_x⟩ := outS_data k1_ k2_
    refine ⟨_, rfl, hb_6, ?_⟩
    clear hs6
    refine al_p (q_move rfl) (al_p (q_extract rfl rfl) (al_p (q_extract rfl rfl) (al_new (fun b => .pointer (some ⟨b, 0, none⟩)) (r_alloc Tryz.zeroValue35 rfl) rfl rfl rfl ?_)))
    intro b4
    refine al_storeAll (i := 0) rfl rfl rfl rfl Tryz.sizeOf35 rfl rfl .k0 rfl (al_p (q_assign rfl) (al_end (aq_then ?_)))
    refine ac_seq (ac_seq (ac_region ?_))
    refine al_p (q_move rfl) ?_
    refine al_p (q_same (v' := .bool false) (q_neq rfl rfl) (by rw [hq]; rfl)) (al_p (q_move rfl) ?_)
    refine al_p (q_fieldAddr 1 rfl Tryz.runUnderlying35 rfl Tryz.sizeOf32 de9 rfl) (al_p (q_loadSub (i := 0) rfl rfl Tryz.isAgg32 Tryz.sizeOf32 .k1 .k3) (al_call Tryz.call10 (.cons rfl .nil) rfl rfl (fun w7 hs7 => ?_)))
    refine (total_any x.Q.A x.Q.B x.Q.C x.Q.la x.Q.ca x.Q.lb x.Q.cb x.Q.lc x.Q.cc (dqS M S).C.plasma _ (hs7.isS (.head _) X_x N_x).cur.plasma (hs7.isS (.head _) X_x N_x).cur.kc).mono ?_
    rintro e u7 ⟨rfl, hb_7⟩
    refine ⟨_, rfl, hb_7, ?_⟩
    clear hs7
    refine al_p (q_same (v' := .bool false) (q_neq rfl rfl) (by rw [htt]; rfl)) (al_p (q_pickF rfl rfl) (al_end (aq_then ?_)))
    refine ac_condF rfl (ac_skip (aq_then (ac_seq (ac_seq (ac_region ?_)))))
    refine al_p (q_assign rfl) (al_end (aq_then ?_))
    refine ac_block ?_
    refine ac_loop (β := Nat) (fun k => k ≤ M.coils.length) (fun k => [(3, (.pointer (some ⟨b1, 0, none⟩))), (5, (.pointer (some ⟨b3, 0, none⟩))), (6, (.bool false)), (11, (.pointer (some ⟨b4, 0, none⟩))), (13, (.int .i64 (k : Int)))]) (fun _ => _) (fun k => [(b4, _), (b3, _), (b2, _), (b1, _)]) (fun k => M.coils.length - k) 0 om9 ⟨rfl, rfl, rfl, rfl, rfl, trivial⟩ (fun w9 hs => hs) (fun k hF1 => ?_)
    refine ac_seq (ac_seq (ac_region ?_))
    refine al_p (q_move rfl) ?_
    refine al_p (q_fieldAddr 1 rfl Tryz.runUnderlying29 rfl Tryz.sizeOf22 de9 rfl) (al_p (q_load (i := 3) rfl rfl rfl Tryz.isAgg22) (al_p (q_lenS rfl Tryz.runUnderlying22) (al_p (q_lss rfl rfl) (al_end (aq_then ?_)))))
    refine ac_cond rfl (fun h3 => ?_) (fun h3 => ?_)
    ·have hkc : k < M.coils.length := by have := of_decide_eq_true h3; omega
     have hfk := hsp.2 k om9
     unfold foOk at hfk
     rw [Bool.and_eq_true] at hfk
     obtain ⟨f1, f2⟩ := hfk
     have f3 := wthn_iff.1 f1
     have f4 := wthn_iff.1 f2
     have f5 : (forceE M (dqS M S).C (k : Int)).2.2 = 0 := force_fine hfd om9
     refine ac_skip (aq_then (ac_seq (ac_block (ac_seq (ac_region ?_)))))
     refine al_p (q_loadAll (i := 3) rfl rfl Tryz.isAgg29 Tryz.sizeOf29 rfl) ?_
     refine al_p (q_fieldAddr 1 rfl Tryz.runUnderlying35 rfl Tryz.sizeOf32 de9 rfl) (al_p (q_loadSub (i := 0) rfl rfl Tryz.isAgg32 Tryz.sizeOf32 .k1 .k3) (al_p (q_move rfl) (al_call Tryz.call11 (.cons rfl (.cons rfl (.cons rfl .nil))) rfl rfl (fun w8 hs8 => ?_))))
     refine (mforce_any R M x.Q (dqS M S).C (k : Int) _ (hM.below hs8.below) (hs8.isS (.tail _ (.head _)) X_x N_x).cur om9 om9).mono ?_
     rintro e u8 ⟨rfl, hb_8⟩
     refine ⟨_, rfl, hb_8, ?_⟩
     clear hs8
     refine al_p (q_move rfl) (al_p (q_extract rfl rfl) (al_p (q_extract rfl rfl) (al_p (q_extract rfl rfl) (al_p (q_assign rfl) ?_))))
     refine al_p (q_assign rfl) (al_p (q_assign rfl) (al_end (aq_then ?_)))
     refine aq_keepL [3, 5, 6, 11, 13, 14, 15, 16, 63, 64, 65, 66, 67, 70, 71, 72, 73, 74, 75, 76, 77, 78] (.cons rfl (.cons rfl (.cons rfl (.cons rfl (.cons rfl (.cons rfl (.cons rfl (.cons rfl (.cons rfl (.cons rfl (.cons rfl (.cons rfl (.cons rfl (.cons rfl (.cons rfl (.cons rfl (.cons rfl (.cons rfl (.cons rfl (.cons rfl (.cons rfl (.cons rfl .nil)))))))))))))))))))))) ?_
     refine ac_seq (ac_region ?_)
     refine al_p (q_move rfl) ?_
     refine al_p (q_same (v' := .bool false) (q_neq rfl rfl) (by rw [f5]; rfl)) (al_p (q_move rfl) (al_p (q_move rfl) ?_))
     refine al_p (q_fieldAddr 1 rfl Tryz.runUnderlying37 rfl Tryz.sizeOf3 de9 rfl) (al_p (q_load (i := 1) rfl rfl rfl Tryz.isAgg3) ?_)
     refine al_p (q_same (v' := .bool false) (q_gtr rfl rfl) (by congr 1; exact decide_eq_false om9)) (al_p (q_pickF rfl rfl) (al_p (q_move rfl) (al_p (q_move rfl) ?_)))
     refine al_p (q_fieldAddr 1 rfl Tryz.runUnderlying37 rfl Tryz.sizeOf3 de9 rfl) (al_p (q_load (i := 1) rfl rfl rfl Tryz.isAgg3) ?_)
     refine al_p (q_neg rfl om9) ?_
     refine al_p (q_same (v' := .bool false) (q_lss rfl rfl) (by congr 1; exact decide_eq_false om9)) (al_p (q_pickF rfl rfl) (al_p (q_move rfl) (al_p (q_move rfl) ?_)))
     refine al_p (q_fieldAddr 1 rfl Tryz.runUnderlying37 rfl Tryz.sizeOf3 de9 rfl) (al_p (q_load (i := 1) rfl rfl rfl Tryz.isAgg3) ?_)
     refine al_p (q_same (v' := .bool false) (q_gtr rfl rfl) (by congr 1; exact decide_eq_false om9)) (al_p (q_pickF rfl rfl) (al_p (q_move rfl) (al_p (q_move rfl) ?_)))
     refine al_p (q_fieldAddr 1 rfl Tryz.runUnderlying37 rfl Tryz.sizeOf3 de9 rfl) (al_p (q_load (i := 1) rfl rfl rfl Tryz.isAgg3) ?_)
     refine al_p (q_neg rfl om9) ?_
     refine al_p (q_same (v' := .bool false) (q_lss rfl rfl) (by congr 1; exact decide_eq_false om9)) (al_p (q_pickF rfl rfl) (al_end (aq_then ?_)))
     refine ac_condF rfl (ac_skip (aq_inN (aq_then (ac_region ?_))))
     refine al_p (q_move rfl) ?_
     refine al_p (q_add rfl rfl om9) (al_p (q_assign rfl) (al_end (aq_then ?_)))
     skip
     refine aq_round (k + 1) om9 om9 ⟨rfl, rfl, rfl, rfl, rfl, trivial⟩ (fun w9 hs => (hs.fewer 1 rfl))
    ·skip
     refine ac_exit (aq_thenE (aq_thenE (aq_hit (aq_then ?_))))
     refine ac_seq (ac_region ?_)
     refine al_p (q_assign rfl) (al_end (aq_then ?_))
     refine ac_ret (ret1 Tryz.results3 rfl (fun w9 hs => ?_))
     exact ⟨rfl, hs.below⟩
end
section
set_option maxRecDepth 100000
open Go.ChangeShapes Go.WideShapes Go.ChangeAt Go.RowKit Go.Joins
theorem own : ownKnob Tryz.prog.godebug = none := by kernel_rfl
theorem cells_int : Tryz.prog.cellsOf 3 = 1 := by kernel_rfl
section
variable {H : Type} {enc : TypeId × Value → H}
end
end
section
set_option maxRecDepth 100000
open Go.ChangeShapes Go.WideShapes Go.ChangeAt Go.RowKit Go.Joins Go.Deep
section
variable {H : Type} {enc : TypeId × Value → H}
theorem open_isT {α : Type} {E : α → List Value} {n : Nat} (h0 : ∀ x, (E x).length = n) {t e : TypeId} {W : World} {b0 : Nat} {r : Reach} {v : Value} {d : DataW H} {p : List MemPlace}
  (ht : Tryz.prog.underlying t = some (.slice e)) (hc : Tryz.prog.cellsOf e = n) (hn : 0 < n)
  (dec : ∀ (fuel : Nat) (cs : List Value) (y : DataW H × List MemPlace), DataW.trod enc Tryz.prog W 0 (fun _ => true) true fuel e cs = some y → ∃ x : α, cs = E x)
  (hv : Value.okWide Tryz.prog W r b0 t v) (h : DataW.Trod enc Tryz.prog W 0 (fun _ => true) true t v d p) :
  ∃ (A : Option Addr) (len cap : Nat) (zs : List α), v = .slice A len cap ∧ IsT n E W A len zs ∧ len ≤ maxLen ∧ len ≤ cap ∧ cap ≤ maxLen := by
 obtain ⟨a, len, cap, rfl⟩ := okWide_slice ht hv
 obtain ⟨fuel, hf⟩ := h
 rcases open_slice ht hf with ⟨hcs, hx⟩ | ⟨a', len', cap', m, k, D, Pl, hcs, hb, hl, hm, hmm, hx, hi⟩
 ·have hcs : [Value.slice a len cap] = [Value.slice none 0 0] := hcs
  injection hcs with hcs _
  injection hcs with e1 e2 e3
  subst e1 e2 e3
  exact ⟨_, _, _, [], rfl, IsT.nil _ _ _ _, Nat.zero_le _, Nat.zero_le _, Nat.zero_le _⟩
 ·have hcs : [Value.slice a len cap] = [Value.slice (some a') len' cap'] := hcs
  injection hcs with hcs _
  injection hcs with e1 e2 e3
  subst e1 e2 e3
  simp only [if_true] at hmm
  subst hmm
  have each : ∀ i, i < len → ∃ x : α, ∀ j, j < n → W.cell? (a'.add (i * n + j)) = (E x)[j]? := fun i hil => by
   obtain ⟨cs', h1, h2⟩ := hi i om9
   obtain ⟨x, rfl⟩ := dec _ _ _ h2
   rw [hc] at h1
   obtain ⟨_, _, hcell⟩ := World.cells?_some h1
   refine ⟨x, fun j hj => ?_⟩
   have := hcell j hj
   rwa [add_add] at this
  by_cases hz : len = 0
  ·subst hz
   exact ⟨_, _, _, [], rfl, IsT.nil _ _ _ _, Nat.zero_le _, Nat.zero_le _, hm⟩
  ·obtain ⟨x0, _⟩ := each 0 om9
   haveI : Inhabited α := ⟨x0⟩
   obtain ⟨z, hz'⟩ := choose_lt each
   refine ⟨_, _, _, (List.range len).map z, rfl, ⟨by simp, fun _ => ?_⟩, Nat.le_trans hl hm, hl, hm⟩
   have c0 := hz' 0 om9 0 hn
   obtain ⟨v0, hv0⟩ : ∃ v0, (E (z 0))[0]? = some v0 := ⟨_, List.getElem?_eq_getElem (by rw [h0]; exact hn)⟩
   rw [hv0] at c0
   have hlt := World.block_lt_of_cell? W _ c0
   have hsp := World.cell?_spot c0
   obtain ⟨b, off, spot⟩ := a'
   have hspot : spot = none := by simpa [Addr.add] using hsp
   subst hspot
   rw [block_add] at hlt
   refine ⟨b, off, rfl, hlt, fun j x hx i v hv => ?_⟩
   have hj : j < len := by
    have := (List.getElem?_eq_some_iff.1 hx).1
    simpa using this
   have hx' : x = z j := by
    rw [List.getElem?_map, List.getElem?_range hj] at hx
    simpa using hx.symm
   subst hx'
   have hin : i < n := by
    have := (List.getElem?_eq_some_iff.1 hv).1
    rwa [h0] at this
   have := hz' j hj i hin
   rw [add_plain, hv] at this
   rw [← this]
   congr 2
   omega
end
end
section
set_option maxRecDepth 100000
open Go.ChangeShapes Go.WideShapes Go.ChangeAt Go.RowKit Go.Joins Go.Deep
theorem cells_string : Tryz.prog.cellsOf 9 = 1 := by kernel_rfl
section
variable {H : Type} {enc : TypeId × Value → H}
theorem open_isTc {α : Type} {E : α → List Value} {n : Nat} (h0 : ∀ x, (E x).length = n) {t e : TypeId} {W : World} {fuel : Nat} {cs : List Value} {y : DataW H × List MemPlace}
  (ht : Tryz.prog.underlying t = some (.slice e)) (hc : Tryz.prog.cellsOf e = n) (hn : 0 < n)
  (dec : ∀ (fuel : Nat) (cs : List Value) (y : DataW H × List MemPlace), DataW.trod enc Tryz.prog W 0 (fun _ => true) true fuel e cs = some y → ∃ x : α, cs = E x)
  (hf : DataW.trod enc Tryz.prog W 0 (fun _ => true) true fuel t cs = some y) :
  ∃ (A : Option Addr) (len cap : Nat) (zs : List α), cs = [.slice A len cap] ∧ IsT n E W A len zs ∧ len ≤ cap ∧ cap ≤ maxLen := by
 rcases open_slice ht hf with ⟨hcs, hx⟩ | ⟨a', len, cap, m, k, D, Pl, hcs, hb, hl, hm, hmm, hx, hi⟩
 ·exact ⟨_, _, _, [], hcs, IsT.nil _ _ _ _, Nat.zero_le _, Nat.zero_le _⟩
 ·simp only [if_true] at hmm
  subst hmm
  subst hcs
  have each : ∀ i, i < len → ∃ x : α, ∀ j, j < n → W.cell? (a'.add (i * n + j)) = (E x)[j]? := fun i hil => by
   obtain ⟨cs', h1, h2⟩ := hi i om9
   obtain ⟨x, rfl⟩ := dec _ _ _ h2
   rw [hc] at h1
   obtain ⟨_, _, hcell⟩ := World.cells?_some h1
   refine ⟨x, fun j hj => ?_⟩
   have := hcell j hj
   rwa [add_add] at this
  by_cases hz : len = 0
  ·subst hz
   exact ⟨_, _, _, [], rfl, IsT.nil _ _ _ _, Nat.zero_le _, hm⟩
  ·obtain ⟨x0, _⟩ := each 0 om9
   haveI : Inhabited α := ⟨x0⟩
   obtain ⟨z, hz'⟩ := choose_lt each
   refine ⟨_, _, _, (List.range len).map z, rfl, ⟨by simp, fun _ => ?_⟩, hl, hm⟩
   have c0 := hz' 0 om9 0 hn
   obtain ⟨v0, hv0⟩ : ∃ v0, (E (z 0))[0]? = some v0 := ⟨_, List.getElem?_eq_getElem (by rw [h0]; exact hn)⟩
   rw [hv0] at c0
   have hlt := World.block_lt_of_cell? W _ c0
   have hsp := World.cell?_spot c0
   obtain ⟨b, off, spot⟩ := a'
   have hspot : spot = none := by simpa [Addr.add] using hsp
   subst hspot
   rw [block_add] at hlt
   refine ⟨b, off, rfl, hlt, fun j x hx i v hv => ?_⟩
   have hj : j < len := by
    have := (List.getElem?_eq_some_iff.1 hx).1
    simpa using this
   have hx' : x = z j := by
    rw [List.getElem?_map, List.getElem?_range hj] at hx
    simpa using hx.symm
   subst hx'
   have hin : i < n := by
    have := (List.getElem?_eq_some_iff.1 hv).1
    rwa [h0] at this
   have := hz' j hj i hin
   rw [add_plain, hv] at this
   rw [← this]
   congr 2
   omega
theorem dec_Coil {W : World} {base : Nat} {spare : Nat → Bool} {held : Bool} (fuel : Nat) (cs : List Value) (y : DataW H × List MemPlace)
  (h : DataW.trod enc Tryz.prog W base spare held fuel 51 cs = some y) : ∃ x : CoilD, cs = x.cells := by
 obtain ⟨xs, n, -, -, hl, hlen, hf⟩ := DataW.trod_struct Tryz.underlying51 h
 rw [show Tryz.prog.cellsOf 51 = 8 by kernel_rfl] at hl
 match xs, hlen with
 | [y0, y1, y2, y3, y4, y5, y6, y7], _ =>
  match cs, hl with
  | [c0, c1, c2, c3, c4, c5, c6, c7], _ =>
   obtain ⟨a0, e0, -, -⟩ := DataW.trod_string Tryz.underlying9 ((hf 0 _ rfl).trans (rfl : _ = some y0))
   obtain ⟨a1, e1, -, -⟩ := DataW.trod_int Tryz.underlying3 ((hf 1 _ rfl).trans (rfl : _ = some y1))
   obtain ⟨a2, e2, -, -⟩ := DataW.trod_int Tryz.underlying3 ((hf 2 _ rfl).trans (rfl : _ = some y2))
   obtain ⟨a3, e3, -, -⟩ := DataW.trod_int Tryz.underlying3 ((hf 3 _ rfl).trans (rfl : _ = some y3))
   obtain ⟨a4, e4, -, -⟩ := DataW.trod_int Tryz.underlying3 ((hf 4 _ rfl).trans (rfl : _ = some y4))
   obtain ⟨a5, e5, -, -⟩ := DataW.trod_int Tryz.underlying3 ((hf 5 _ rfl).trans (rfl : _ = some y5))
   obtain ⟨a6, e6, -, -⟩ := DataW.trod_int Tryz.underlying3 ((hf 6 _ rfl).trans (rfl : _ = some y6))
   obtain ⟨a7, e7, -, -⟩ := DataW.trod_int Tryz.underlying3 ((hf 7 _ rfl).trans (rfl : _ = some y7))
   simp [cells_int, cells_string] at e0
   simp [cells_int, cells_string] at e1
   simp [cells_int, cells_string] at e2
   simp [cells_int, cells_string] at e3
   simp [cells_int, cells_string] at e4
   simp [cells_int, cells_string] at e5
   simp [cells_int, cells_string] at e6
   simp [cells_int, cells_string] at e7
   subst e0 e1 e2 e3 e4 e5 e6 e7
   exact ⟨⟨a0, a1, a2, a3, a4, a5, a6, a7⟩, rfl⟩
theorem dec_Shell {W : World} {base : Nat} {spare : Nat → Bool} {held : Bool} (fuel : Nat) (cs : List Value) (y : DataW H × List MemPlace)
  (h : DataW.trod enc Tryz.prog W base spare held fuel 142 cs = some y) : ∃ x : ShellD, cs = x.cells := by
 obtain ⟨xs, n, -, -, hl, hlen, hf⟩ := DataW.trod_struct Tryz.underlying142 h
 rw [show Tryz.prog.cellsOf 142 = 4 by kernel_rfl] at hl
 match xs, hlen with
 | [y0, y1, y2, y3], _ =>
  match cs, hl with
  | [c0, c1, c2, c3], _ =>
   obtain ⟨a0, e0, -, -⟩ := DataW.trod_int Tryz.underlying3 ((hf 0 _ rfl).trans (rfl : _ = some y0))
   obtain ⟨a1, e1, -, -⟩ := DataW.trod_int Tryz.underlying3 ((hf 1 _ rfl).trans (rfl : _ = some y1))
   obtain ⟨a2, e2, -, -⟩ := DataW.trod_int Tryz.underlying3 ((hf 2 _ rfl).trans (rfl : _ = some y2))
   obtain ⟨a3, e3, -, -⟩ := DataW.trod_int Tryz.underlying3 ((hf 3 _ rfl).trans (rfl : _ = some y3))
   simp [cells_int, cells_string] at e0
   simp [cells_int, cells_string] at e1
   simp [cells_int, cells_string] at e2
   simp [cells_int, cells_string] at e3
   subst e0 e1 e2 e3
   exact ⟨⟨a0, a1, a2, a3⟩, rfl⟩
theorem dec_Point {W : World} {base : Nat} {spare : Nat → Bool} {held : Bool} (fuel : Nat) (cs : List Value) (y : DataW H × List MemPlace)
  (h : DataW.trod enc Tryz.prog W base spare held fuel 53 cs = some y) : ∃ x : PointD, cs = x.cells := by
 obtain ⟨xs, n, -, -, hl, hlen, hf⟩ := DataW.trod_struct Tryz.underlying53 h
 rw [show Tryz.prog.cellsOf 53 = 2 by kernel_rfl] at hl
 match xs, hlen with
 | [y0, y1], _ =>
  match cs, hl with
  | [c0, c1], _ =>
   obtain ⟨a0, e0, -, -⟩ := DataW.trod_int Tryz.underlying3 ((hf 0 _ rfl).trans (rfl : _ = some y0))
   obtain ⟨a1, e1, -, -⟩ := DataW.trod_int Tryz.underlying3 ((hf 1 _ rfl).trans (rfl : _ = some y1))
   simp [cells_int, cells_string] at e0
   simp [cells_int, cells_string] at e1
   subst e0 e1
   exact ⟨⟨a0, a1⟩, rfl⟩
theorem dec_Sensor {W : World} {base : Nat} {spare : Nat → Bool} {held : Bool} (fuel : Nat) (cs : List Value) (y : DataW H × List MemPlace)
  (h : DataW.trod enc Tryz.prog W base spare held fuel 148 cs = some y) : ∃ x : SensorD, cs = x.cells := by
 obtain ⟨xs, n, -, -, hl, hlen, hf⟩ := DataW.trod_struct Tryz.underlying148 h
 rw [show Tryz.prog.cellsOf 148 = 5 by kernel_rfl] at hl
 match xs, hlen with
 | [y0, y1, y2, y3, y4], _ =>
  match cs, hl with
  | [c0, c1, c2, c3, c4], _ =>
   obtain ⟨a0, e0, -, -⟩ := DataW.trod_string Tryz.underlying9 ((hf 0 _ rfl).trans (rfl : _ = some y0))
   obtain ⟨a1, e1, -, -⟩ := DataW.trod_int Tryz.underlying3 ((hf 1 _ rfl).trans (rfl : _ = some y1))
   obtain ⟨a2, e2, -, -⟩ := DataW.trod_int Tryz.underlying3 ((hf 2 _ rfl).trans (rfl : _ = some y2))
   obtain ⟨a3, e3, -, -⟩ := DataW.trod_int Tryz.underlying3 ((hf 3 _ rfl).trans (rfl : _ = some y3))
   obtain ⟨a4, e4, -, -⟩ := DataW.trod_int Tryz.underlying3 ((hf 4 _ rfl).trans (rfl : _ = some y4))
   simp [cells_int, cells_string] at e0
   simp [cells_int, cells_string] at e1
   simp [cells_int, cells_string] at e2
   simp [cells_int, cells_string] at e3
   simp [cells_int, cells_string] at e4
   subst e0 e1 e2 e3 e4
   exact ⟨⟨a0, a1, a2, a3, a4⟩, rfl⟩
structure OpM (w : World) (R : MachR) (M : MachD) : Prop where
 coils : IsT 8 CoilD.cells w R.A R.la M.coils
 shells : IsT 4 ShellD.cells w R.B R.lb M.shells
 limits : IsT 2 PointD.cells w R.C R.lc M.limits
 sensors : IsT 5 SensorD.cells w R.D R.ld M.sensors
 la : R.la ≤ R.ca
 lb : R.lb ≤ R.cb
 lc : R.lc ≤ R.cc
 ld : R.ld ≤ R.cd
 ca : R.ca ≤ 9223372036854775807
 cb : R.cb ≤ 9223372036854775807
 cc : R.cc ≤ 9223372036854775807
 cd : R.cd ≤ 9223372036854775807
theorem OpM.isM {w : World} {R : MachR} {M : MachD} (h : OpM w R M) (ka : R.la ≤ 1000000000000000) (kb : R.lb ≤ 1000000000000000) (kc : R.lc ≤ 1000000000000000) (kd : R.ld ≤ 1000000000000000) : IsM w R M :=
 ⟨h.coils, h.shells, h.limits, h.sensors, h.la, h.lb, h.lc, h.ld, h.ca, h.cb, h.cc, h.cd, ka, kb, kc, kd⟩
theorem open_machine {W : World} {b0 : Nat} {r : Reach} {v : Value} {d : DataW H} {p : List MemPlace}
  (hv : Value.okWide Tryz.prog W r b0 29 v) (h : DataW.Trod enc Tryz.prog W 0 (fun _ => true) true 29 v d p) :
  ∃ (R : MachR) (M : MachD), v = .agg (machCells R M) ∧ OpM W R M := by
 obtain ⟨⟨cs⟩, rfl, hsz⟩ := okWide_struct Tryz.underlying29 hv
 obtain ⟨fuel, hf0⟩ := h
 have hf1 : DataW.trod enc Tryz.prog W 0 (fun _ => true) true fuel 29 cs = some (d, p) := hf0
 obtain ⟨xs, n, -, -, hl, hlen, hf⟩ := DataW.trod_struct Tryz.underlying29 hf1
 rw [show Tryz.prog.cellsOf 29 = 10 by kernel_rfl] at hl
 match xs, hlen with
 | [y0, y1, y2, y3, y4, y5], _ =>
  match cs, hl with
  | [c0, c1, c2, c3, c4, c5, c6, c7, c8, c9], _ =>
   obtain ⟨name, e0, -, -⟩ := DataW.trod_string Tryz.underlying9 ((hf 0 _ rfl).trans (rfl : _ = some y0))
   obtain ⟨A, la, ca, coils, e1, h1, k1, m1⟩ := open_isTc (n := 8) (E := CoilD.cells) (fun _ => rfl) Tryz.underlying22 kr9 de9 dec_Coil ((hf 1 _ rfl).trans (rfl : _ = some y1))
   obtain ⟨B, lb, cb, shells, e2, h2, k2, m2⟩ := open_isTc (n := 4) (E := ShellD.cells) (fun _ => rfl) Tryz.underlying23 kr9 de9 dec_Shell ((hf 2 _ rfl).trans (rfl : _ = some y2))
   obtain ⟨C, lc, cc, limits, e3, h3, k3, m3⟩ := open_isTc (n := 2) (E := PointD.cells) (fun _ => rfl) Tryz.underlying24 kr9 de9 dec_Point ((hf 3 _ rfl).trans (rfl : _ = some y3))
   obtain ⟨D, ld, cd, sensors, e5, h5, k5, m5⟩ := open_isTc (n := 5) (E := SensorD.cells) (fun _ => rfl) Tryz.underlying27 kr9 de9 dec_Sensor ((hf 5 _ rfl).trans (rfl : _ = some y5))
   obtain ⟨gs, gn, -, -, gl, glen, gf⟩ := DataW.trod_struct Tryz.underlying26 ((hf 4 _ rfl).trans (rfl : _ = some y4))
   match gs, glen with
   | [z0, z1, z2, z3, z4], _ =>
    obtain ⟨a0, f0, -, -⟩ := DataW.trod_int Tryz.underlying3 ((gf 0 _ rfl).trans (rfl : _ = some z0))
    obtain ⟨a1, f1, -, -⟩ := DataW.trod_int Tryz.underlying3 ((gf 1 _ rfl).trans (rfl : _ = some z1))
    obtain ⟨a2, f2, -, -⟩ := DataW.trod_int Tryz.underlying3 ((gf 2 _ rfl).trans (rfl : _ = some z2))
    obtain ⟨a3, f3, -, -⟩ := DataW.trod_int Tryz.underlying3 ((gf 3 _ rfl).trans (rfl : _ = some z3))
    obtain ⟨a4, f4, -, -⟩ := DataW.trod_int Tryz.underlying3 ((gf 4 _ rfl).trans (rfl : _ = some z4))
    have cg : Tryz.prog.cellsOf 26 = 5 := by kernel_rfl
    have cs1 : Tryz.prog.cellsOf 22 = 1 := by kernel_rfl
    have cs2 : Tryz.prog.cellsOf 23 = 1 := by kernel_rfl
    have cs3 : Tryz.prog.cellsOf 24 = 1 := by kernel_rfl
    have cs5 : Tryz.prog.cellsOf 27 = 1 := by kernel_rfl
    simp [cells_int, cells_string, cg, cs1, cs2, cs3, cs5] at e0 e1 e2 e3 e5 f0 f1 f2 f3 f4
    subst e0 e1 e2 e3 e5 f0 f1 f2 f3 f4
    unfold maxLen at m1 m2 m3 m5
    exact ⟨⟨A, B, C, D, la, ca, lb, cb, lc, cc, ld, cd⟩, ⟨name, coils, shells, limits, ⟨a0, a1, a2, a3, a4⟩, sensors⟩, rfl, h1, h2, h3, h5, k1, k2, k3, k5, m1, m2, m3, m5⟩
theorem shut_machine {W W' : World} {v : Value} {d : DataW H} {p : List MemPlace} (h : DataW.Trod enc Tryz.prog W 0 (fun _ => true) true 29 v d p) (hb : Below W.heap.size W W') (hlt : ∀ x ∈ p, x.block < W.heap.size) :
  DataW.Trod enc Tryz.prog W' 0 (fun b => decide (b < W.heap.size)) true 29 v d p :=
 Below.trod kr9 kr9 (of_decide_eq_true kr9) h hb hlt
end
end
section
set_option maxRecDepth 100000
open Go.ChangeShapes Go.WideShapes Go.ChangeAt Go.RowKit Go.Joins Go.Deep
section
variable {H : Type} {enc : TypeId × Value → H}
theorem dec_intI {W : World} {base : Nat} {spare : Nat → Bool} {held : Bool} (fuel : Nat) (cs : List Value) (y : DataW H × List MemPlace)
  (h : DataW.trod enc Tryz.prog W base spare held fuel 3 cs = some y) : ∃ x : Int, cs = intCells x := by
 obtain ⟨a, e, _, _⟩ := DataW.trod_int Tryz.underlying3 h
 exact ⟨a, e⟩
structure OpC (w : World) (Q : CurR) (C : CurD) : Prop where
 coils : IsT 1 intCells w Q.A Q.la C.coils
 shells : IsT 1 intCells w Q.B Q.lb C.shells
 plasma : IsT 1 intCells w Q.C Q.lc C.plasma
 la : Q.la ≤ Q.ca
 lb : Q.lb ≤ Q.cb
 lc : Q.lc ≤ Q.cc
 ca : Q.ca ≤ 9223372036854775807
 cb : Q.cb ≤ 9223372036854775807
 cc : Q.cc ≤ 9223372036854775807
theorem OpC.isC {w : World} {Q : CurR} {C : CurD} (h : OpC w Q C) (ka : Q.la ≤ 1000000000000000) (kb : Q.lb ≤ 1000000000000000) (kc : Q.lc ≤ 1000000000000000) : IsC w Q C :=
 ⟨h.coils, h.shells, h.plasma, h.la, h.lb, h.lc, h.ca, h.cb, h.cc, ka, kb, kc⟩
end
end
section
set_option maxRecDepth 100000
open Go.ChangeShapes Go.WideShapes Go.ChangeAt Go.RowKit Go.Joins Go.Deep
section
variable {H : Type} {enc : TypeId × Value → H}
theorem dec_boolB {W : World} {base : Nat} {spare : Nat → Bool} {held : Bool} (fuel : Nat) (cs : List Value) (y : DataW H × List MemPlace)
  (h : DataW.trod enc Tryz.prog W base spare held fuel 4 cs = some y) : ∃ x : Bool, cs = boolCells x := by
 obtain ⟨a, e, _⟩ := DataW.trod_bool Tryz.underlying4 h
 exact ⟨a, e⟩
structure OpS (w : World) (R : StR) (S : StD) : Prop where
 cur : OpC w R.Q S.C
 heat : IsT 1 intCells w R.H R.lh S.heat
 trip : IsT 1 boolCells w R.T R.lt S.trip
 lh : R.lh ≤ R.ch
 lt : R.lt ≤ R.ct
 ch : R.ch ≤ 9223372036854775807
 ct : R.ct ≤ 9223372036854775807
theorem OpS.isS {w : World} {R : StR} {S : StD} (h : OpS w R S) (ka : R.Q.la ≤ 1000000000000000) (kb : R.Q.lb ≤ 1000000000000000) (kc : R.Q.lc ≤ 1000000000000000) (kh : R.lh ≤ 1000000000000000) : IsS w R S :=
 ⟨h.cur.isC ka kb kc, h.heat, h.trip, h.lh, h.lt, h.ch, h.ct, kh, by have := h.lt; have := h.ct; omega⟩
theorem open_state {W : World} {b0 : Nat} {r : Reach} {v : Value} {d : DataW H} {p : List MemPlace}
  (hv : Value.okWide Tryz.prog W r b0 35 v) (h : DataW.Trod enc Tryz.prog W 0 (fun _ => true) true 35 v d p) :
  ∃ (R : StR) (S : StD), v = R.v S.tick ∧ OpS W R S := by
 obtain ⟨⟨cs⟩, rfl, hsz⟩ := okWide_struct Tryz.underlying35 hv
 obtain ⟨fuel, hf0⟩ := h
 have hf1 : DataW.trod enc Tryz.prog W 0 (fun _ => true) true fuel 35 cs = some (d, p) := hf0
 obtain ⟨xs, n, -, -, hl, hlen, hf⟩ := DataW.trod_struct Tryz.underlying35 hf1
 rw [show Tryz.prog.cellsOf 35 = 6 by kernel_rfl] at hl
 match xs, hlen with
 | [y0, y1, y2, y3], _ =>
  match cs, hl with
  | [c0, c1, c2, c3, c4, c5], _ =>
   obtain ⟨tk, e0, -, -⟩ := DataW.trod_int Tryz.underlying3 ((hf 0 _ rfl).trans (rfl : _ = some y0))
   obtain ⟨gs, gn, -, -, gl, glen, gf⟩ := DataW.trod_struct Tryz.underlying32 ((hf 1 _ rfl).trans (rfl : _ = some y1))
   obtain ⟨A4, l4, k4, z4, e4, h4, q4, m4⟩ := open_isTc (n := 1) (E := intCells) (fun _ => rfl) Tryz.underlying30 kr9 de9 dec_intI ((hf 2 _ rfl).trans (rfl : _ = some y2))
   obtain ⟨A5, l5, k5, z5, e5, h5, q5, m5⟩ := open_isTc (n := 1) (E := boolCells) (fun _ => rfl) Tryz.underlying33 kr9 de9 dec_boolB ((hf 3 _ rfl).trans (rfl : _ = some y3))
   match gs, glen with
   | [g0, g1, g2], _ =>
    obtain ⟨A1, l1, k1, z1, e1, h1, q1, m1⟩ := open_isTc (n := 1) (E := intCells) (fun _ => rfl) Tryz.underlying30 kr9 de9 dec_intI ((gf 0 _ rfl).trans (rfl : _ = some g0))
    obtain ⟨A2, l2, k2, z2, e2, h2, q2, m2⟩ := open_isTc (n := 1) (E := intCells) (fun _ => rfl) Tryz.underlying30 kr9 de9 dec_intI ((gf 1 _ rfl).trans (rfl : _ = some g1))
    obtain ⟨A3, l3, k3, z3, e3, h3, q3, m3⟩ := open_isTc (n := 1) (E := intCells) (fun _ => rfl) Tryz.underlying30 kr9 de9 dec_intI ((gf 2 _ rfl).trans (rfl : _ = some g2))
    have cg : Tryz.prog.cellsOf 32 = 3 := by kernel_rfl
    have cs1 : Tryz.prog.cellsOf 30 = 1 := by kernel_rfl
    have cs2 : Tryz.prog.cellsOf 33 = 1 := by kernel_rfl
    simp [cells_int, cg, cs1, cs2] at e0 e1 e2 e3 e4 e5
    subst e0 e1 e2 e3 e4 e5
    unfold maxLen at m1 m2 m3 m4 m5
    exact ⟨⟨⟨A1, A2, A3, l1, k1, l2, k2, l3, k3⟩, A4, A5, l4, k4, l5, k5⟩, ⟨tk, ⟨z1, z2, z3⟩, z4, z5⟩, rfl, ⟨⟨h1, h2, h3, q1, q2, q3, m1, m2, m3⟩, h4, h5, q4, q5, m4, m5⟩⟩
theorem shut_state {W W' : World} {v : Value} {d : DataW H} {p : List MemPlace} (h : DataW.Trod enc Tryz.prog W 0 (fun _ => true) true 35 v d p) (hb : Below W.heap.size W W') (hlt : ∀ x ∈ p, x.block < W.heap.size) :
  DataW.Trod enc Tryz.prog W' 0 (fun b => decide (b < W.heap.size)) true 35 v d p :=
 Below.trod kr9 kr9 (of_decide_eq_true kr9) h hb hlt
end
end
section
set_option maxRecDepth 100000
open Go.ChangeShapes Go.WideShapes Go.ChangeAt Go.RowKit Go.Joins Go.Deep
section
variable {H : Type} {enc : TypeId × Value → H}
theorem open_safety {W : World} {b0 : Nat} {r : Reach} {v : Value} {d : DataW H} {p : List MemPlace}
  (hv : Value.okWide Tryz.prog W r b0 37 v) (h : DataW.Trod enc Tryz.prog W 0 (fun _ => true) true 37 v d p) :
  ∃ a b : Int, v = .agg #[.int .i64 a, .int .i64 b] := by
 obtain ⟨⟨cs⟩, rfl, hsz⟩ := okWide_struct Tryz.underlying37 hv
 obtain ⟨fuel, hf0⟩ := h
 have hf1 : DataW.trod enc Tryz.prog W 0 (fun _ => true) true fuel 37 cs = some (d, p) := hf0
 obtain ⟨xs, n, -, -, hl, hlen, hf⟩ := DataW.trod_struct Tryz.underlying37 hf1
 rw [show Tryz.prog.cellsOf 37 = 2 by kernel_rfl] at hl
 match xs, hlen with
 | [y0, y1], _ =>
  match cs, hl with
  | [c0, c1], _ =>
   obtain ⟨a, e0, -, -⟩ := DataW.trod_int Tryz.underlying3 ((hf 0 _ rfl).trans (rfl : _ = some y0))
   obtain ⟨b, e1, -, -⟩ := DataW.trod_int Tryz.underlying3 ((hf 1 _ rfl).trans (rfl : _ = some y1))
   simp [cells_int] at e0 e1
   subst e0 e1
   exact ⟨a, b, rfl⟩
theorem shut_safety {W W' : World} {v : Value} {d : DataW H} {p : List MemPlace} (h : DataW.Trod enc Tryz.prog W 0 (fun _ => true) true 37 v d p) (hb : Below W.heap.size W W') (hlt : ∀ x ∈ p, x.block < W.heap.size) :
  DataW.Trod enc Tryz.prog W' 0 (fun b => decide (b < W.heap.size)) true 37 v d p :=
 Below.trod kr9 kr9 (of_decide_eq_true kr9) h hb hlt
end
end
end Go.Proofs.YthggkidiidnaoaaGreat
