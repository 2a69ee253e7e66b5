import Derived.Test.YthggkidiidnaoaaGreatWAA
import Derived.Test.YthggkidiidnaoaaGreatWAC
import Derived.Test.YthggkidiidnaoaaGreatWAF
import Derived.Test.YthggkidiidnaoaaGreatWAI
import Derived.Test.YthggkidiidnaoaaGreatWBA
import Derived.Test.YthggkidiidnaoaaGreatWBB
import Derived.Test.YthggkidiidnaoaaGreatWBH
import Derived.Test.YthggkidiidnaoaaGreatWBI
import Derived.Test.YthggkidiidnaoaaGreatWBL
import Derived.Test.YthggkidiidnaoaaGreatRows
import Derived.KernelRfl
import Derived.Laws.StructEq
namespace Go.Proofs.YthggkidiidnaoaaGreat
set_option linter.unusedVariables false
set_option linter.unusedSimpArgs false
section
open Go.RowKit
theorem quenE_late {M : MachD} {S : StD} (hv : validS M S = true) (h : S.tick ≥ 1000000000) : quenE M S = 7 := by
 rw [quenE, if_pos hv, repE, if_neg om9]
theorem quenE_fine {M : MachD} {S : StD} (hv : validS M S = true) (h : ¬ S.tick ≥ 1000000000) : quenE M S = 0 := by
 rw [quenE, if_pos hv, repE, if_pos om9]
theorem kze_bl_apiState_ : ∀ w, (Instr.build 35 #[]).run Tryz.prog w = .ok (.agg #[(.int .i64 0), (.slice none 0 0), (.slice none 0 0), (.slice none 0 0), (.slice none 0 0), (.slice none 0 0)]) w := by
 intro w; simp [Instr.build, Instr.fill, cells_agg, Tryz.runUnderlying35, Tryz.zeroValue35, Tryz.sizeOf3, Tryz.sizeOf30, Tryz.sizeOf32, Tryz.sizeOf33]
theorem kze_bl_apiDrive_0_1 (a0 a1 : Value) (ha0 : a0.oneCell' = true) (ha1 : a1.oneCell' = true) : ∀ w, (Instr.build 79 #[(0, a0), (1, a1)]).run Tryz.prog w = .ok (.agg #[a0, a1]) w := by
 have ea0 : a0.cells = #[a0] := cells_one ha0
 have ea1 : a1.cells = #[a1] := cells_one ha1
 intro w; simp [Instr.build, Instr.fill, cells_agg, Tryz.runUnderlying79, Tryz.zeroValue79, Tryz.sizeOf30, ea0, ea1]
set_option maxRecDepth 100000 in
theorem rQuench_any (R : MachR) (M : MachD) (RS : StR) (S : StD) (w : World) (hM : IsM w R M) (hS : IsS w RS S) (h1 : R.la ≤ 1000) (h2 : RS.Q.lc ≤ 1000) : Calls Tryz.prog 21 #[(.agg (machCells R M)), (RS.v S.tick)] w (OutS w (quenE M S) (stepD M S (zerosI M.coils.length) (dimL S))) := by
 refine calls_ax (vs := [(.agg (machCells R M)), (RS.v S.tick)]) Tryz.func21 rfl rfl ?_
 refine ac_seq (ac_region ?_)
 refine al_nb (r_box rfl rfl) ?_
 intro b1
 refine al_nb (r_box rfl rfl) ?_
 intro b2
 refine al_nb (r_alloc Tryz.zeroValue35 rfl) ?_
 intro b3
 refine al_p (q_assign rfl) (al_end (aq_then ?_))
 refine ac_seq (ac_draw 11 kr9 kr9 ?_)
 refine ah_share (fuel' := 1) (listed' := #[true, true, true, true, true, true, true, true, true, true, true, false]) (fun K => ∀ (b1001 : Nat), ∀ (b4001 : Nat), ∀ (b10001 : Nat), K [(2, (.pointer (some ⟨b1, 0, none⟩))), (3, (.pointer (some ⟨b2, 0, none⟩))), (4, (.pointer (some ⟨b3, 0, none⟩))), (5, (.int .i64 0)), (6, (.pointer (some ⟨b10001, 0, none⟩))), (7, (.pointer (some ⟨b1, 1, none⟩))), (8, (.slice (R.A) R.la R.ca)), (9, (.int .i64 (R.la : Int))), (10, (.slice (some ⟨b1001, 0, none⟩) (R.la) (R.la))), (11, (.pointer (some ⟨b2, 1, none⟩))), (12, (.pointer (some ⟨b2, 3, none⟩))), (13, (.slice RS.Q.C RS.Q.lc RS.Q.cc)), (14, (.int .i64 (RS.Q.lc : Int))), (15, (.slice (some ⟨b4001, 0, none⟩) (RS.Q.lc) (RS.Q.lc))), (16, (.agg #[(.slice (some ⟨b1001, 0, none⟩) (R.la) (R.la)), (.slice (some ⟨b4001, 0, none⟩) (RS.Q.lc) (RS.Q.lc))]))] [(b10001, .cells [(.slice none 0 0), (.slice none 0 0)]), (b4001, .cells ((List.replicate (RS.Q.lc) ((.int .i64 0))))), (b1001, .cells ((List.replicate (R.la) ((.int .i64 0))))), (b3, .cells [(.int .i64 0), (.slice none 0 0), (.slice none 0 0), (.slice none 0 0), (.slice none 0 0), (.slice none 0 0)]), (b2, .cells ((stC RS S.tick))), (b1, .cells [(.string M.name), (.slice (R.A) R.la R.ca), (.slice (R.B) R.lb R.cb), (.slice (R.C) R.lc R.cc), (.int .i64 M.grid.r), (.int .i64 M.grid.z), (.int .i64 M.grid.nr), (.int .i64 M.grid.nz), (.int .i64 M.grid.step), (.slice (R.D) R.ld R.cd)])]) ?_ (fun hS1_0 => ?_)
 ·intro b1001 b4001 b10001
  refine ah_one 11 rfl kr9 (fun hok1 hcl1 => ?_)
  refine al_storeAll (i := 0) rfl rfl rfl rfl Tryz.sizeOf79 rfl rfl .k0 rfl (al_end (ah_last kr9 ?_))
  refine aq_then (ac_seq (ac_block (ac_seq (ac_region ?_))))
  refine al_p (q_loadAll (i := 5) rfl rfl Tryz.isAgg29 Tryz.sizeOf29 rfl) (al_p (q_loadAll (i := 4) rfl rfl Tryz.isAgg35 Tryz.sizeOf35 rfl) (al_call Tryz.call19 (.cons rfl (.cons rfl .nil)) rfl rfl (fun w1 hs1 => ?_)))
  refine (rvalidState_any R M RS S _ (hM.below hs1.below) (hS.below hs1.below)).mono ?_
  rintro e u1 ⟨rfl, hb_1⟩
  refine ⟨_, rfl, hb_1, ?_⟩
  clear hs1
  refine al_p (q_not rfl) (al_p (q_assign rfl) (al_end (aq_then ?_)))
  refine ac_cond rfl (fun h1 => ?_) (fun h1 => ?_)
  ·have hE : quenE M S = 1 := if_neg (fun h => by first | (rw [h.1] at h1; cases h1) | (rw [h] at h1; cases h1))
   refine ac_seq (ac_region ?_)
   refine al_p (q_build .nil (kze_bl_apiState_)) (al_storeAll (i := 3) rfl rfl rfl rfl Tryz.sizeOf35 rfl rfl .k3 rfl (al_p (q_assign rfl) (al_end (aq_then ?_))))
   refine ac_ret (aq_inR (aq_thenR (retR Tryz.results21 (.agg (i := 3) rfl rfl Tryz.isAgg35 Tryz.sizeOf35 rfl (.tmp rfl .nil)) .two (fun w9 hs => ?_))))
   rw [hE]; exact OutS.bad de9 ⟨rfl, hs.below⟩
  ·have hv : validS M S = true := by simpa using h1
   have hf := fitS_iff.1 hv
   obtain ⟨s1, s2⟩ := smallC hM hf.cur.check
   refine ac_seq (ac_region ?_)
   refine al_p (q_fieldAddr 0 rfl Tryz.runUnderlying35 rfl Tryz.sizeOf3 de9 rfl) (al_p (q_load (i := 4) rfl rfl rfl Tryz.isAgg3) (al_p (q_geq rfl rfl) (al_p (q_assign rfl) (al_end (aq_then ?_)))))
   refine ac_cond rfl (fun h2 => ?_) (fun h2 => ?_)
   ·have hE := quenE_late hv (of_decide_eq_true h2)
    refine ac_seq (ac_region ?_)
    refine al_p (q_build .nil (kze_bl_apiState_)) (al_storeAll (i := 3) rfl rfl rfl rfl Tryz.sizeOf35 rfl rfl .k3 rfl (al_p (q_assign rfl) (al_end (aq_then ?_))))
    refine ac_ret (aq_inR (aq_thenR (retR Tryz.results21 (.agg (i := 3) rfl rfl Tryz.isAgg35 Tryz.sizeOf35 rfl (.tmp rfl .nil)) .two (fun w9 hs => ?_))))
    rw [hE]; exact OutS.bad de9 ⟨rfl, hs.below⟩
   ·have hE := quenE_fine hv (of_decide_eq_false h2)
    refine ac_skip (aq_inN (aq_then (ac_seq (ac_region ?_))))
    refine al_p (q_loadAll (i := 5) rfl rfl Tryz.isAgg29 Tryz.sizeOf29 rfl) (al_p (q_loadAll (i := 4) rfl rfl Tryz.isAgg35 Tryz.sizeOf35 rfl) (al_p (q_loadAll (i := 0) rfl rfl Tryz.isAgg79 Tryz.sizeOf79 rfl) (al_call Tryz.call43 (.cons rfl (.cons rfl (.cons rfl .nil))) rfl rfl (fun w2 hs2 => ?_))))
    have hz := hs2.below.size
    refine (rstep_any R M RS S (some ⟨b1001, 0, none⟩) (some ⟨b4001, 0, none⟩) R.la R.la RS.Q.lc RS.Q.lc (zerosI M.coils.length) (dimL S) _ (hM.below hs2.below) (hS.below hs2.below) hf (isT_box0 (n := 1) (enc := intCells) (fun _ => rfl) (hs2.at 2 rfl) (by rw [hM.coils.1]; exact flatZ R.la) (by simp [zerosI, hM.coils.1])) (isT_box0 (n := 1) (enc := intCells) (fun _ => rfl) (hs2.at 1 rfl) (by unfold dimL; rw [hS.cur.plasma.1]; exact flatZ RS.Q.lc) (by simp [dimL, zerosI, hS.cur.plasma.1])) zero_ch (fitP_iff.1 (dim_ok hf))).mono ?_
    rintro e u2 ⟨x9, rfl, k1_, k2_, hb_2⟩
    refine ⟨_, rfl, hb_2, ?_⟩
    clear hs2
    refine al_storeAll (i := 3) rfl rfl rfl rfl Tryz.sizeOf35 rfl rfl .k3 rfl (al_p (q_assign rfl) (al_end (aq_then ?_)))
    refine ac_ret (retR Tryz.results21 (.agg (i := 3) rfl rfl Tryz.isAgg35 Tryz.sizeOf35 rfl (.tmp rfl .nil)) .two (fun w9 hs => ?_))
    rw [hE]; exact outS_late (k := 0) hs (.head _) hz hs.below (fun _ => ⟨rfl, k1_, k2_⟩) (fun h => absurd rfl h)
 refine ah_share (fuel' := 2) (listed' := #[true, true, true, true, true, true, true, true, true, true, false, false]) (fun K => ∀ (b1001 : Nat), ∀ (b4001 : Nat), K [(2, (.pointer (some ⟨b1, 0, none⟩))), (3, (.pointer (some ⟨b2, 0, none⟩))), (4, (.pointer (some ⟨b3, 0, none⟩))), (5, (.int .i64 0)), (7, (.pointer (some ⟨b1, 1, none⟩))), (8, (.slice (R.A) R.la R.ca)), (9, (.int .i64 (R.la : Int))), (10, (.slice (some ⟨b1001, 0, none⟩) (R.la) (R.la))), (11, (.pointer (some ⟨b2, 1, none⟩))), (12, (.pointer (some ⟨b2, 3, none⟩))), (13, (.slice RS.Q.C RS.Q.lc RS.Q.cc)), (14, (.int .i64 (RS.Q.lc : Int))), (15, (.slice (some ⟨b4001, 0, none⟩) (RS.Q.lc) (RS.Q.lc))), (16, (.agg #[(.slice (some ⟨b1001, 0, none⟩) (R.la) (R.la)), (.slice (some ⟨b4001, 0, none⟩) (RS.Q.lc) (RS.Q.lc))]))] [(b4001, .cells ((List.replicate (RS.Q.lc) ((.int .i64 0))))), (b1001, .cells ((List.replicate (R.la) ((.int .i64 0))))), (b3, .cells [(.int .i64 0), (.slice none 0 0), (.slice none 0 0), (.slice none 0 0), (.slice none 0 0), (.slice none 0 0)]), (b2, .cells ((stC RS S.tick))), (b1, .cells [(.string M.name), (.slice (R.A) R.la R.ca), (.slice (R.B) R.lb R.cb), (.slice (R.C) R.lc R.cc), (.int .i64 M.grid.r), (.int .i64 M.grid.z), (.int .i64 M.grid.nr), (.int .i64 M.grid.nz), (.int .i64 M.grid.step), (.slice (R.D) R.ld R.cd)])]) ?_ (fun hS1_1 => ?_)
 ·intro b1001 b4001
  refine ah_one 10 rfl kr9 (fun hok2 hcl2 => ?_)
  refine al_nb (r_alloc Tryz.zeroValue79 rfl) ?_
  intro b4
  refine al_end (ah_back hok2 hcl2 (fun w9 hs => (hs.tail 3 rfl)) ?_)
  exact ah_to (hS1_0 b1001 b4001 b4) rfl kr9 ⟨rfl, rfl, rfl, rfl, rfl, rfl, rfl, rfl, rfl, rfl, rfl, rfl, rfl, rfl, rfl, trivial⟩ (fun w9 hs => hs)
 refine ah_share (fuel' := 3) (listed' := #[true, true, true, true, true, true, true, true, false, false, true, false]) (fun K => ∀ (b1001 : Nat), ∀ (b5001 : Nat), K [(2, (.pointer (some ⟨b1, 0, none⟩))), (3, (.pointer (some ⟨b2, 0, none⟩))), (4, (.pointer (some ⟨b3, 0, none⟩))), (5, (.int .i64 0)), (6, (.pointer (some ⟨b5001, 0, none⟩))), (7, (.pointer (some ⟨b1, 1, none⟩))), (8, (.slice (R.A) R.la R.ca)), (9, (.int .i64 (R.la : Int))), (10, (.slice (some ⟨b1001, 0, none⟩) (R.la) (R.la))), (11, (.pointer (some ⟨b2, 1, none⟩))), (12, (.pointer (some ⟨b2, 3, none⟩))), (13, (.slice RS.Q.C RS.Q.lc RS.Q.cc)), (14, (.int .i64 (RS.Q.lc : Int)))] [(b5001, .cells [(.slice none 0 0), (.slice none 0 0)]), (b1001, .cells ((List.replicate (R.la) ((.int .i64 0))))), (b3, .cells [(.int .i64 0), (.slice none 0 0), (.slice none 0 0), (.slice none 0 0), (.slice none 0 0), (.slice none 0 0)]), (b2, .cells ((stC RS S.tick))), (b1, .cells [(.string M.name), (.slice (R.A) R.la R.ca), (.slice (R.B) R.lb R.cb), (.slice (R.C) R.lc R.cc), (.int .i64 M.grid.r), (.int .i64 M.grid.z), (.int .i64 M.grid.nr), (.int .i64 M.grid.nz), (.int .i64 M.grid.step), (.slice (R.D) R.ld R.cd)])]) ?_ (fun hS1_2 => ?_)
 ·intro b1001 b5001
  refine ah_one 8 rfl kr9 (fun hok3 hcl3 => ?_)
  refine al_makeInts (n := RS.Q.lc) (z := (.int .i64 0)) (bytes := 8) rfl rfl rfl Tryz.underlying30 kr9 rfl om9 de9 rfl rfl ?_
  intro b5
  refine al_end (ah_back hok3 hcl3 (fun w9 hs => (hs.tail 3 rfl)) ?_)
  refine ah_t 9 (fun w9 hs => (hs.tail 3 rfl)) rfl rfl kr9 (q_build (.cons rfl (.cons rfl .nil)) (kze_bl_apiDrive_0_1 _ _ rfl rfl)) ?_
  exact ah_to (hS1_0 b1001 b5 b5001) rfl kr9 ⟨rfl, rfl, rfl, rfl, rfl, rfl, rfl, rfl, rfl, rfl, rfl, rfl, rfl, rfl, rfl, trivial⟩ (fun w9 hs => hs.pm (.cons (.there (.here)) (.refl)))
 refine ah_share (fuel' := 3) (listed' := #[true, true, true, false, true, true, true, true, true, false, true, false]) (fun K => ∀ (b2001 : Nat), ∀ (b7001 : Nat), K [(2, (.pointer (some ⟨b1, 0, none⟩))), (3, (.pointer (some ⟨b2, 0, none⟩))), (4, (.pointer (some ⟨b3, 0, none⟩))), (5, (.int .i64 0)), (6, (.pointer (some ⟨b7001, 0, none⟩))), (7, (.pointer (some ⟨b1, 1, none⟩))), (8, (.slice (R.A) R.la R.ca)), (9, (.int .i64 (R.la : Int))), (11, (.pointer (some ⟨b2, 1, none⟩))), (12, (.pointer (some ⟨b2, 3, none⟩))), (13, (.slice RS.Q.C RS.Q.lc RS.Q.cc)), (14, (.int .i64 (RS.Q.lc : Int))), (15, (.slice (some ⟨b2001, 0, none⟩) (RS.Q.lc) (RS.Q.lc)))] [(b7001, .cells [(.slice none 0 0), (.slice none 0 0)]), (b2001, .cells ((List.replicate (RS.Q.lc) ((.int .i64 0))))), (b3, .cells [(.int .i64 0), (.slice none 0 0), (.slice none 0 0), (.slice none 0 0), (.slice none 0 0), (.slice none 0 0)]), (b2, .cells ((stC RS S.tick))), (b1, .cells [(.string M.name), (.slice (R.A) R.la R.ca), (.slice (R.B) R.lb R.cb), (.slice (R.C) R.lc R.cc), (.int .i64 M.grid.r), (.int .i64 M.grid.z), (.int .i64 M.grid.nr), (.int .i64 M.grid.nz), (.int .i64 M.grid.step), (.slice (R.D) R.ld R.cd)])]) ?_ (fun hS1_3 => ?_)
 ·intro b2001 b7001
  refine ah_one 3 rfl kr9 (fun hok4 hcl4 => ?_)
  refine al_makeInts (n := R.la) (z := (.int .i64 0)) (bytes := 8) rfl rfl rfl Tryz.underlying30 kr9 rfl om9 de9 rfl rfl ?_
  intro b6
  refine al_end (ah_back hok4 hcl4 (fun w9 hs => (hs.tail 3 rfl)) ?_)
  refine ah_t 9 (fun w9 hs => (hs.tail 3 rfl)) rfl rfl kr9 (q_build (.cons rfl (.cons rfl .nil)) (kze_bl_apiDrive_0_1 _ _ rfl rfl)) ?_
  exact ah_to (hS1_0 b6 b2001 b7001) rfl kr9 ⟨rfl, rfl, rfl, rfl, rfl, rfl, rfl, rfl, rfl, rfl, rfl, rfl, rfl, rfl, rfl, trivial⟩ (fun w9 hs => hs.pm (.cons (.there (.here)) ( .cons (.there (.here)) (.refl))))
 ·refine ah_t 0 (fun w9 hs => hs) rfl rfl kr9 (q_fieldAddr 1 rfl Tryz.runUnderlying29 rfl Tryz.sizeOf22 de9 rfl) (ah_t 1 (fun w9 hs => hs) rfl rfl kr9 (q_load (i := 2) rfl rfl rfl Tryz.isAgg22) (ah_t 2 (fun w9 hs => hs) rfl rfl kr9 (q_lenS rfl Tryz.runUnderlying22) ?_))
  refine ah_t 4 (fun w9 hs => hs) rfl rfl kr9 (q_fieldAddr 1 rfl Tryz.runUnderlying35 rfl Tryz.sizeOf32 de9 rfl) ?_
  refine ah_t 5 (fun w9 hs => hs) rfl rfl kr9 (q_fieldAddr 3 rfl Tryz.runUnderlying32 rfl Tryz.sizeOf30 de9 rfl) (ah_t 6 (fun w9 hs => hs) rfl rfl kr9 (q_load (i := 1) rfl rfl rfl Tryz.isAgg30) (ah_t 7 (fun w9 hs => hs) rfl rfl kr9 (q_lenS rfl Tryz.runUnderlying30) ?_))
  refine ah_three 3 8 10 rfl rfl rfl  kr9 (fun hok5 hcl5 => ?_) (fun hok5 hcl5 => ?_) (fun hok5 hcl5 => ?_)
  ·refine al_makeInts (n := R.la) (z := (.int .i64 0)) (bytes := 8) rfl rfl rfl Tryz.underlying30 kr9 rfl om9 de9 rfl rfl ?_
   intro b7
   refine al_end (ah_back hok5 hcl5 (fun w9 hs => (hs.tail 1 rfl)) ?_)
   refine ah_two 8 10 rfl rfl  kr9 (fun hok6 hcl6 => ?_) (fun hok6 hcl6 => ?_)
   ·refine al_makeInts (n := RS.Q.lc) (z := (.int .i64 0)) (bytes := 8) rfl rfl rfl Tryz.underlying30 kr9 rfl om9 de9 rfl rfl ?_
    intro b8
    refine al_end (ah_back hok6 hcl6 (fun w9 hs => (hs.tail 2 rfl)) ?_)
    refine ah_t 9 (fun w9 hs => (hs.tail 2 rfl)) rfl rfl kr9 (q_build (.cons rfl (.cons rfl .nil)) (kze_bl_apiDrive_0_1 _ _ rfl rfl)) ?_
    exact ah_to (hS1_1 b7 b8) rfl kr9 ⟨rfl, rfl, rfl, rfl, rfl, rfl, rfl, rfl, rfl, rfl, rfl, rfl, rfl, rfl, trivial⟩ (fun w9 hs => hs)
   ·refine al_nb (r_alloc Tryz.zeroValue79 rfl) ?_
    intro b9
    refine al_end (ah_back hok6 hcl6 (fun w9 hs => (hs.tail 2 rfl)) ?_)
    exact ah_to (hS1_2 b7 b9) rfl kr9 ⟨rfl, rfl, rfl, rfl, rfl, rfl, rfl, rfl, rfl, rfl, rfl, rfl, rfl, trivial⟩ (fun w9 hs => hs)
  ·refine al_makeInts (n := RS.Q.lc) (z := (.int .i64 0)) (bytes := 8) rfl rfl rfl Tryz.underlying30 kr9 rfl om9 de9 rfl rfl ?_
   intro b10
   refine al_end (ah_back hok5 hcl5 (fun w9 hs => (hs.tail 1 rfl)) ?_)
   refine ah_two 3 10 rfl rfl  kr9 (fun hok7 hcl7 => ?_) (fun hok7 hcl7 => ?_)
   ·refine al_makeInts (n := R.la) (z := (.int .i64 0)) (bytes := 8) rfl rfl rfl Tryz.underlying30 kr9 rfl om9 de9 rfl rfl ?_
    intro b11
    refine al_end (ah_back hok7 hcl7 (fun w9 hs => (hs.tail 2 rfl)) ?_)
    refine ah_t 9 (fun w9 hs => (hs.tail 2 rfl)) rfl rfl kr9 (q_build (.cons rfl (.cons rfl .nil)) (kze_bl_apiDrive_0_1 _ _ rfl rfl)) ?_
    exact ah_to (hS1_1 b11 b10) rfl kr9 ⟨rfl, rfl, rfl, rfl, rfl, rfl, rfl, rfl, rfl, rfl, rfl, rfl, rfl, rfl, trivial⟩ (fun w9 hs => hs.pm (.cons (.there (.here)) (.refl)))
   ·refine al_nb (r_alloc Tryz.zeroValue79 rfl) ?_
    intro b12
    refine al_end (ah_back hok7 hcl7 (fun w9 hs => (hs.tail 2 rfl)) ?_)
    exact ah_to (hS1_3 b10 b12) rfl kr9 ⟨rfl, rfl, rfl, rfl, rfl, rfl, rfl, rfl, rfl, rfl, rfl, rfl, rfl, trivial⟩ (fun w9 hs => hs)
  ·refine al_nb (r_alloc Tryz.zeroValue79 rfl) ?_
   intro b13
   refine al_end (ah_back hok5 hcl5 (fun w9 hs => (hs.tail 1 rfl)) ?_)
   refine ah_two 3 8 rfl rfl  kr9 (fun hok8 hcl8 => ?_) (fun hok8 hcl8 => ?_)
   ·refine al_makeInts (n := R.la) (z := (.int .i64 0)) (bytes := 8) rfl rfl rfl Tryz.underlying30 kr9 rfl om9 de9 rfl rfl ?_
    intro b14
    refine al_end (ah_back hok8 hcl8 (fun w9 hs => (hs.tail 2 rfl)) ?_)
    exact ah_to (hS1_2 b14 b13) rfl kr9 ⟨rfl, rfl, rfl, rfl, rfl, rfl, rfl, rfl, rfl, rfl, rfl, rfl, rfl, trivial⟩ (fun w9 hs => hs.pm (.cons (.there (.here)) (.refl)))
   ·refine al_makeInts (n := RS.Q.lc) (z := (.int .i64 0)) (bytes := 8) rfl rfl rfl Tryz.underlying30 kr9 rfl om9 de9 rfl rfl ?_
    intro b15
    refine al_end (ah_back hok8 hcl8 (fun w9 hs => (hs.tail 2 rfl)) ?_)
    exact ah_to (hS1_3 b15 b13) rfl kr9 ⟨rfl, rfl, rfl, rfl, rfl, rfl, rfl, rfl, rfl, rfl, rfl, rfl, rfl, trivial⟩ (fun w9 hs => hs.pm (.cons (.there (.here)) (.refl)))
end
section
open Go.RowKit
theorem Sta.call0 {E : Cfg} {U : Snaps} {w w' : World} (h : Sta E U [] w) (hb : Below w.heap.size w w') : Sta E ((E.w.heap.size, w') :: U) [] w' := by
 have h' := h.ext hb
 refine ⟨h'.chg, h'.box, h'.apart, fun lo u hu => ?_⟩
 cases hu with
 | head => exact ⟨Nat.le_refl _, h'.chg.size, Nat.le_refl _, fun k _ hk => rfl, h'.chg.block, fun i b cs hi => by cases hi⟩
 | tail _ hu => exact h'.snap lo u hu
theorem Sta.big {n : Nat} {D : List Deferred} {w0 u w : World} {U : Snaps} {L : Boxes} {v : Value} {z : Int} (h : Sta ⟨n, D, w0, []⟩ U L w) (hu : (w0.heap.size, u) ∈ U) (hV : BigV u v z) : BigV w v z := by
 obtain ⟨A, m, cap, P, e, ⟨hl, hI⟩, h2⟩ := hV
 obtain ⟨s0, s1, s2, s3, s4, -⟩ := h.snap _ _ hu
 refine ⟨A, m, cap, P, e, ⟨hl, fun h0 => ?_⟩, h2⟩
 obtain ⟨b, o, e1, q1, q2, q3⟩ := hI h0
 refine ⟨b, o, e1, q1, Nat.lt_of_lt_of_le q2 s2, fun j hj => ?_⟩
 have hk : w.heap[b]? = u.heap[b]? := by
  rcases Nat.lt_or_ge b w0.heap.size with g | g
  ·exact (h.chg.block b g (by simp)).trans (s4 b g (by simp)).symm
  ·exact s3 b g q2
 rw [World.cell?_of_block (w := u) (w' := w) (a := ⟨b, _, none⟩) hk]; exact q3 j hj
theorem flo_pos (a : Int) : flo a 1000000000 = a / 1000000000 := by simp [flo]
set_option maxRecDepth 100000 in
theorem pushed_any (t c f : Int) (w : World) (h0 : -100000000 ≤ t * c) (h1 : t * c ≤ 100000000) (f0 : -100000000000000000 ≤ f) (f1 : f ≤ 100000000000000000) : Calls Tryz.prog 46 #[(.int .i64 t), (.int .i64 c), (.int .i64 f)] w (Ret (.int .i64 (forceP (t * c) f)) w) := by
 have m1 := mul_bdd (a := t * c) (b := f) (A := 100000000) (B := 100000000000000000) h0 h1 f0 f1
 refine calls_ax (vs := [(.int .i64 t), (.int .i64 c), (.int .i64 f)]) Tryz.func46 rfl rfl ?_
 refine ac_seq (ac_region ?_)
 refine al_p (q_assign rfl) (al_end (aq_then ?_))
 refine ac_seq (ac_region ?_)
 refine al_p (q_move rfl) (al_p (q_move rfl) ?_)
 refine al_p (q_mul rfl rfl om9) (al_callS Tryz.call89 (.cons rfl .nil) rfl rfl (fun w1 hs1 => ?_))
 refine (of_big (t * c) _ om9 om9).mono ?_
 rintro e u1 ⟨v1, rfl, Vv1, hb_1⟩
 refine ⟨_, _, _, rfl, hs1.call0 hb_1, ?_⟩
 refine al_p (q_move rfl) (al_callS Tryz.call89 (.cons rfl .nil) rfl rfl (fun w2 hs2 => ?_))
 refine (of_big f _ om9 om9).mono ?_
 rintro e u2 ⟨v2, rfl, Vv2, hb_2⟩
 refine ⟨_, _, _, rfl, hs2.call0 hb_2, ?_⟩
 refine al_callS Tryz.call88 (.cons rfl (.cons rfl .nil)) rfl rfl (fun w3 hs3 => ?_)
 refine (times_big (t * c) f v1 v2 _ (hs3.big (.tail _ (.head _)) Vv1) (hs3.big (.head _) Vv2) (by simp only [pw]; omega) (by simp only [pw]; omega)).mono ?_
 rintro e u3 ⟨v3, rfl, Vv3, hb_3⟩
 refine ⟨_, _, _, rfl, hs3.call0 hb_3, ?_⟩
 refine al_callS Tryz.call89 (.cons rfl .nil) rfl rfl (fun w4 hs4 => ?_)
 refine (of_big 1000000000 _ om9 om9).mono ?_
 rintro e u4 ⟨v4, rfl, Vv4, hb_4⟩
 refine ⟨_, _, _, rfl, hs4.call0 hb_4, ?_⟩
 refine al_callS Tryz.call87 (.cons rfl (.cons rfl .nil)) rfl rfl (fun w5 hs5 => ?_)
 refine (floor_big (t * c * f) 1000000000 v3 v4 _ (hs5.big (.tail _ (.head _)) Vv3) (hs5.big (.head _) Vv4) (by simp only [pw]; omega) (by simp only [pw]; omega) om9).mono ?_
 rintro e u5 ⟨v5, rfl, Vv5, hb_5⟩
 obtain ⟨A5, n5, c5, P5, hu5, Q5⟩ := Vv5.big
 have Vv5 := Vv5.big
 subst hu5
 refine ⟨_, _, _, rfl, hs5.call0 hb_5, ?_⟩
 refine al_nb (r_alloc Tryz.zeroValue156 rfl) ?_
 intro b1
 refine al_storeAll (i := 0) rfl rfl rfl rfl Tryz.sizeOf156 rfl rfl .k0 rfl (al_end (aq_then ?_))
 refine ac_seq (ac_region ?_)
 refine al_p (q_loadAll (i := 0) rfl rfl Tryz.isAgg156 Tryz.sizeOf156 rfl) (al_call Tryz.call90 (.cons rfl .nil) rfl rfl (fun w6 hs6 => ?_))
 refine (int_any (flo (t * c * f) 1000000000) _ _ (hs6.big (.head _) Vv5)).mono ?_
 rintro e u6 ⟨rfl, hb_6⟩
 refine ⟨_, rfl, hb_6, ?_⟩
 clear hs6
 refine al_p (q_move rfl) (al_p (q_extract rfl rfl) (al_p (q_extract rfl rfl) (al_p (q_assign rfl) (al_p (q_assign rfl) ?_))))
 refine al_end (aq_then ?_)
 refine ac_seq (ac_region ?_)
 refine al_p (q_move rfl) (al_p (q_assign rfl) (al_end (aq_then ?_)))
 refine ac_ret (ret1 Tryz.results46 rfl (fun w9 hs => ?_))
 refine ⟨?_, hs.below⟩; rw [flo_pos, forceP_eq]; unfold intL; rw [if_pos om9]
set_option maxRecDepth 100000 in
theorem rforce_bad (R : MachR) (M : MachD) (Q : CurR) (C : CurD) (i : Int) (w : World) (hM : IsM w R M) (hC : IsC w Q C) (hb : validC M C = false ∨ wthn i 0 ((M.coils.length : Int) - 1) = false) : Calls Tryz.prog 23 #[(.agg (machCells R M)), Q.v, (.int .i64 i)] w (Ret (.tuple #[.int .i64 (forceE M C i).1, .int .i64 (forceE M C i).2.1, .int .i64 (forceE M C i).2.2]) w) := by
 have hl := hM.coils.1
 have hk := hM.ka
 have hl2 : wthn i 0 ((M.coils.length : Int) - 1) = wthn i 0 ((R.la : Int) - 1) := by rw [hl]
 refine calls_ax (vs := [(.agg (machCells R M)), Q.v, (.int .i64 i)]) Tryz.func23 rfl rfl ?_
 refine ac_seq (ac_region ?_)
 refine al_nb (r_box rfl rfl) ?_
 intro b1
 refine al_nb (r_box rfl rfl) ?_
 intro b2
 refine al_p (q_assign rfl) (al_p (q_assign rfl) (al_p (q_assign rfl) (al_end (aq_then ?_))))
 refine ac_seq (ac_block (ac_seq (ac_region ?_)))
 refine al_p (q_loadAll (i := 1) rfl rfl Tryz.isAgg29 Tryz.sizeOf29 rfl) (al_p (q_loadAll (i := 0) rfl rfl Tryz.isAgg32 Tryz.sizeOf32 rfl) (al_call Tryz.call41 (.cons rfl (.cons rfl .nil)) rfl rfl (fun w1 hs1 => ?_)))
 refine (rvalid2_any R M Q C _ (hM.below hs1.below) (hC.below hs1.below)).mono ?_
 rintro e u1 ⟨rfl, hb_1⟩
 refine ⟨_, rfl, hb_1, ?_⟩
 clear hs1
 refine al_p (q_not rfl) (al_p (q_assign rfl) (al_end (aq_then ?_)))
 refine ac_cond rfl (fun h1 => ?_) (fun h1 => ?_)
 ·have hv : validC M C = false := by simpa using h1
  refine ac_seq (ac_region ?_)
  refine al_p (q_assign rfl) (al_p (q_assign rfl) (al_p (q_assign rfl) (al_end (aq_then ?_))))
  refine ac_ret (aq_inR (aq_thenR (retR Tryz.results23 (.tmp rfl (.tmp rfl (.tmp rfl .nil))) .two (fun w9 hs => ?_))))
  refine ⟨?_, hs.below⟩; simp_all [forceE]
 ·have hv : validC M C = true := by simpa using h1
  refine ac_seq (ac_region ?_)
  refine al_p (q_move rfl) ?_
  refine al_p (q_fieldAddr 1 rfl Tryz.runUnderlying29 rfl Tryz.sizeOf22 de9 rfl) (al_p (q_load (i := 1) rfl rfl rfl Tryz.isAgg22) (al_p (q_lenS rfl Tryz.runUnderlying22) ?_))
  refine al_p (q_sub rfl rfl om9) (al_call Tryz.call44 (.cons rfl (.cons rfl (.cons rfl .nil))) rfl rfl (fun w2 hs2 => ?_))
  refine (rwithin2_any i 0 ((R.la : Int) - 1) _).mono ?_
  rintro e u2 ⟨rfl, rfl⟩
  refine ⟨_, rfl, (Below.refl _ _), ?_⟩
  clear hs2
  refine al_p (q_not rfl) (al_p (q_assign rfl) (al_end (aq_then ?_)))
  refine ac_cond rfl (fun h2 => ?_) (fun h2 => ?_)
  ·have hw : wthn i 0 ((R.la : Int) - 1) = false := by simpa using h2
   refine ac_seq (ac_region ?_)
   refine al_p (q_assign rfl) (al_p (q_assign rfl) (al_p (q_assign rfl) (al_end (aq_then ?_))))
   refine ac_ret (aq_inR (aq_thenR (retR Tryz.results23 (.tmp rfl (.tmp rfl (.tmp rfl .nil))) .two (fun w9 hs => ?_))))
   refine ⟨?_, hs.below⟩; simp_all [forceE]
  ·have hw : wthn i 0 ((R.la : Int) - 1) = true := by simpa using h2
   rw [hv, hl2, hw] at hb; simp at hb
set_option maxRecDepth 100000 in
theorem rforce_val (R : MachR) (M : MachD) (Q : CurR) (C : CurD) (i : Nat) (x : CoilD) (c : Int) (w : World) (hM : IsM w R M) (hC : IsC w Q C) (hv : Fit2 M C) (hx : M.coils[i]? = some x) (hc : C.coils[i]? = some c) : Calls Tryz.prog 23 #[(.agg (machCells R M)), Q.v, (.int .i64 (i : Int))] w (Ret (.tuple #[.int .i64 (forceP (x.turns * c) (fieldP (x.r, x.z) (srcM M C)).2), .int .i64 (forceP (-x.turns * c) (fieldP (x.r, x.z) (srcM M C)).1), .int .i64 0]) w) := by
 have hl := hM.coils.1
 have hk := hM.ka
 have hil := (List.getElem?_eq_some_iff.1 hx).1
 have hl2 := hC.coils.1
 have hil2 := (List.getElem?_eq_some_iff.1 hc).1
 obtain ⟨b1, o1, hA1, hlt1, hget1⟩ := hM.coils.2 om9
 obtain ⟨b2, o2, hA2, hlt2, hget2⟩ := hC.coils.2 om9
 have hs0 := sound_of hv.check
 have hx0 := hs0.coils.2 x (List.mem_of_getElem? hx)
 have hc0 := hv.coils.2 c (List.mem_of_getElem? hc)
 have hm := mul_bdd (a := x.turns) (b := c) (A := 100) (B := 1000000) om9 om9 hc0.1 hc0.2
 have hbd := fun p => (small_of hv).bd p
 have hb1 := hbd (x.r, x.z - 1)
 have hb2 := hbd (x.r, x.z + 1)
 have hb3 := hbd (x.r + 1, x.z)
 have hb4 := hbd (x.r - 1, x.z)
 refine calls_ax (vs := [(.agg (machCells R M)), Q.v, (.int .i64 (i : Int))]) Tryz.func23 rfl rfl ?_
 refine ac_seq (ac_region ?_)
 refine al_nb (r_box rfl rfl) ?_
 intro b1
 refine al_nb (r_box rfl rfl) ?_
 intro b2
 refine al_p (q_assign rfl) (al_p (q_assign rfl) (al_p (q_assign rfl) (al_end (aq_then ?_))))
 refine ac_seq (ac_block (ac_seq (ac_region ?_)))
 refine al_p (q_loadAll (i := 1) rfl rfl Tryz.isAgg29 Tryz.sizeOf29 rfl) (al_p (q_loadAll (i := 0) rfl rfl Tryz.isAgg32 Tryz.sizeOf32 rfl) (al_call Tryz.call41 (.cons rfl (.cons rfl .nil)) rfl rfl (fun w1 hs1 => ?_)))
 refine (rvalid2_any R M Q C _ (hM.below hs1.below) (hC.below hs1.below)).mono ?_
 rintro e u1 ⟨rfl, hb_1⟩
 refine ⟨_, rfl, hb_1, ?_⟩
 clear hs1
 refine al_p (q_not rfl) (al_p (q_assign rfl) (al_end (aq_then ?_)))
 refine ac_cond rfl (fun h1 => ?_) (fun h1 => ?_)
 ·simp [fit2_iff.2 hv] at h1
 ·refine ac_seq (ac_region ?_)
  refine al_p (q_move rfl) ?_
  refine al_p (q_fieldAddr 1 rfl Tryz.runUnderlying29 rfl Tryz.sizeOf22 de9 rfl) (al_p (q_load (i := 1) rfl rfl rfl Tryz.isAgg22) (al_p (q_lenS rfl Tryz.runUnderlying22) ?_))
  refine al_p (q_sub rfl rfl om9) (al_call Tryz.call44 (.cons rfl (.cons rfl (.cons rfl .nil))) rfl rfl (fun w2 hs2 => ?_))
  refine (rwithin2_any (i : Int) 0 ((R.la : Int) - 1) _).mono ?_
  rintro e u2 ⟨rfl, rfl⟩
  refine ⟨_, rfl, (Below.refl _ _), ?_⟩
  clear hs2
  refine al_p (q_not rfl) (al_p (q_assign rfl) (al_end (aq_then ?_)))
  refine ac_cond rfl (fun h2 => ?_) (fun h2 => ?_)
  ·simp [wthn] at h2; omega
  ·refine ac_skip (aq_inN (aq_then (ac_seq (ac_region ?_))))
   refine al_p (q_fieldAddr 1 rfl Tryz.runUnderlying29 rfl Tryz.sizeOf22 de9 rfl) (al_p (q_load (i := 1) rfl rfl rfl Tryz.isAgg22) (al_p (q_move rfl) ?_))
   refine al_p (q_indexAddrA (i := i) (o1 + i * 8 + 0) hA1 rfl rfl rfl om9 Tryz.runUnderlying22 Tryz.sizeOf51 rfl) (al_p (q_loadXs (CoilD.cells x) rfl Tryz.isAgg51 Tryz.sizeOf51 (fun w9 hs j9 v9 h9 => by rw [addr_add]; exact (hs.below.cell (p := ⟨_, _, none⟩) hlt1).trans ((hget1 i x hx) j9 v9 h9)) rfl) (al_new (fun b => .pointer (some ⟨b, 0, none⟩)) (r_alloc Tryz.zeroValue51 rfl) rfl rfl rfl ?_))
   intro b3
   refine al_storeAll (i := 0) rfl rfl rfl rfl Tryz.sizeOf51 rfl rfl .k0 rfl (al_end (aq_then ?_))
   refine ac_seq (ac_region ?_)
   refine al_p (q_loadAll (i := 2) rfl rfl Tryz.isAgg29 Tryz.sizeOf29 rfl) (al_p (q_loadAll (i := 1) rfl rfl Tryz.isAgg32 Tryz.sizeOf32 rfl) ?_)
   refine al_p (q_fieldAddr 1 rfl Tryz.runUnderlying51 rfl Tryz.sizeOf3 de9 rfl) (al_p (q_load (i := 0) rfl rfl rfl Tryz.isAgg3) ?_)
   refine al_p (q_fieldAddr 2 rfl Tryz.runUnderlying51 rfl Tryz.sizeOf3 de9 rfl) (al_p (q_load (i := 0) rfl rfl rfl Tryz.isAgg3) (al_call Tryz.call45 (.cons rfl (.cons rfl (.cons rfl (.cons rfl .nil)))) rfl rfl (fun w3 hs3 => ?_)))
   refine (rfield9_any R M Q C x.r x.z _ (hM.below hs3.below) (hC.below hs3.below) hv om9 om9 om9 om9).mono ?_
   rintro e u3 ⟨rfl, hb_3⟩
   refine ⟨_, rfl, hb_3, ?_⟩
   clear hs3
   refine al_p (q_move rfl) (al_p (q_extract rfl rfl) (al_p (q_extract rfl rfl) (al_p (q_assign rfl) (al_p (q_assign rfl) ?_))))
   refine al_end (aq_then ?_)
   refine ac_seq (ac_draw 21 kr9 kr9 ?_)
   refine ah_t 0 (fun w9 hs => hs) rfl rfl kr9 (q_fieldAddr 3 rfl Tryz.runUnderlying51 rfl Tryz.sizeOf3 de9 rfl) (ah_t 1 (fun w9 hs => hs) rfl rfl kr9 (q_load (i := 0) rfl rfl rfl Tryz.isAgg3) ?_)
   refine ah_t 2 (fun w9 hs => hs) rfl rfl kr9 (q_fieldAddr 0 rfl Tryz.runUnderlying32 rfl Tryz.sizeOf30 de9 rfl) (ah_t 3 (fun w9 hs => hs) rfl rfl kr9 (q_load (i := 1) rfl rfl rfl Tryz.isAgg30) (ah_t 4 (fun w9 hs => hs) rfl rfl kr9 (q_move rfl) ?_))
   refine ah_t 5 (fun w9 hs => hs) rfl rfl kr9 (q_indexAddrA (i := i) (o2 + i * 1 + 0) hA2 rfl rfl rfl om9 Tryz.runUnderlying30 Tryz.sizeOf3 rfl) (ah_t 6 (fun w9 hs => hs) rfl rfl kr9 (q_loadX rfl Tryz.isAgg3 (fun w9 hs => (hs.below.cell (p := ⟨_, _, none⟩) hlt2).trans ((hget2 i c hc) 0 _ rfl))) (ah_t 7 (fun w9 hs => hs) rfl rfl kr9 (q_move rfl) ?_))
   refine ah_t 9 (fun w9 hs => hs) rfl rfl kr9 (q_fieldAddr 3 rfl Tryz.runUnderlying51 rfl Tryz.sizeOf3 de9 rfl) (ah_t 10 (fun w9 hs => hs) rfl rfl kr9 (q_load (i := 0) rfl rfl rfl Tryz.isAgg3) ?_)
   refine ah_t 11 (fun w9 hs => hs) rfl rfl kr9 (q_neg rfl om9) ?_
   refine ah_t 12 (fun w9 hs => hs) rfl rfl kr9 (q_fieldAddr 0 rfl Tryz.runUnderlying32 rfl Tryz.sizeOf30 de9 rfl) (ah_t 13 (fun w9 hs => hs) rfl rfl kr9 (q_load (i := 1) rfl rfl rfl Tryz.isAgg30) (ah_t 14 (fun w9 hs => hs) rfl rfl kr9 (q_move rfl) ?_))
   refine ah_t 15 (fun w9 hs => hs) rfl rfl kr9 (q_indexAddrA (i := i) (o2 + i * 1 + 0) hA2 rfl rfl rfl om9 Tryz.runUnderlying30 Tryz.sizeOf3 rfl) (ah_t 16 (fun w9 hs => hs) rfl rfl kr9 (q_loadX rfl Tryz.isAgg3 (fun w9 hs => (hs.below.cell (p := ⟨_, _, none⟩) hlt2).trans ((hget2 i c hc) 0 _ rfl))) (ah_t 17 (fun w9 hs => hs) rfl rfl kr9 (q_move rfl) (ah_one 8 rfl kr9 (fun hok1 hcl1 => ?_))))
   refine al_call Tryz.call46 (.cons rfl (.cons rfl (.cons rfl .nil))) rfl rfl (fun w4 hs4 => ?_)
   refine (pushed_any x.turns c (fieldP (x.r, x.z) (srcM M C)).2 _ om9 om9 (by simp only [fieldP]; omega) (by simp only [fieldP]; omega)).mono ?_
   rintro e u4 ⟨rfl, hb_4⟩
   refine ⟨_, rfl, hb_4, ?_⟩
   clear hs4
   refine al_end (ah_back hok1 hcl1 (fun w9 hs => (hs.fewer 1 rfl)) ?_)
   refine ah_one 18 rfl kr9 (fun hok2 hcl2 => ?_)
   refine al_call Tryz.call46 (.cons rfl (.cons rfl (.cons rfl .nil))) rfl rfl (fun w5 hs5 => ?_)
   refine (pushed_any (-x.turns) c (fieldP (x.r, x.z) (srcM M C)).1 _ (by rw [Int.neg_mul]; omega) (by rw [Int.neg_mul]; omega) (by simp only [fieldP]; omega) (by simp only [fieldP]; omega)).mono ?_
   rintro e u5 ⟨rfl, hb_5⟩
   refine ⟨_, rfl, hb_5, ?_⟩
   clear hs5
   refine al_end (ah_back hok2 hcl2 (fun w9 hs => (hs.fewer 2 rfl)) ?_)
   refine ah_one 19 rfl kr9 (fun hok3 hcl3 => ?_)
   refine al_p (q_assign rfl) (al_end (ah_back hok3 hcl3 (fun w9 hs => (hs.fewer 2 rfl)) ?_))
   refine ah_one 20 rfl kr9 (fun hok4 hcl4 => ?_)
   refine al_p (q_assign rfl) (al_end (ah_back hok4 hcl4 (fun w9 hs => (hs.fewer 2 rfl)) ?_))
   refine ah_one 21 rfl kr9 (fun hok5 hcl5 => ?_)
   refine al_p (q_assign rfl) (al_end (ah_last kr9 ?_))
   refine aq_then (ac_ret (retR Tryz.results23 (.tmp rfl (.tmp rfl (.tmp rfl .nil))) .two (fun w9 hs => ?_)))
   exact ⟨rfl, hs.below⟩
theorem rForce_any (R : MachR) (M : MachD) (Q : CurR) (C : CurD) (i : Int) (w : World) (hM : IsM w R M) (hC : IsC w Q C) :
  Calls Tryz.prog 23 #[.agg (machCells R M), Q.v, .int .i64 i] w (Ret (.tuple #[.int .i64 (forceE M C i).1, .int .i64 (forceE M C i).2.1, .int .i64 (forceE M C i).2.2]) w) := by
 cases h1 : validC M C with
 | false => exact rforce_bad R M Q C i w hM hC (Or.inl h1)
 | true =>
  cases h2 : wthn i 0 ((M.coils.length : Int) - 1) with
  | false => exact rforce_bad R M Q C i w hM hC (Or.inr h2)
  | true =>
   have hw := wthn_iff.1 h2
   have hv := fit2_iff.1 h1
   have hn : i.toNat < M.coils.length := by omega
   have hn2 : i.toNat < C.coils.length := by rw [hv.coils.1]; exact hn
   have e : ((i.toNat : Nat) : Int) = i := by omega
   have h := rforce_val R M Q C i.toNat M.coils[i.toNat] C.coils[i.toNat] w hM hC hv (List.getElem?_eq_getElem hn) (List.getElem?_eq_getElem hn2)
   rw [e] at h
   simpa [forceE, h1, h2, List.getElem?_eq_getElem hn, List.getElem?_eq_getElem hn2, Int.neg_mul] using h
end
end Go.Proofs.YthggkidiidnaoaaGreat
