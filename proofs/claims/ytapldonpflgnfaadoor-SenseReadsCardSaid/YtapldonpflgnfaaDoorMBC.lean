import Derived.Test.YtapldonpflgnfaaDoorMAZ
import Derived.Test.YtapldonpflgnfaaDoorMBA
import Derived.Test.YtapldonpflgnfaaDoorMBB
import Derived.Test.YtapldonpflgnfaaDoorRows
import Derived.KernelRfl
import Derived.Laws.StructEq
namespace Go.Proofs.YtapldonpflgnfaaDoor
set_option linter.unusedVariables false
set_option linter.unusedSimpArgs false
section
open Go.RowKit
set_option maxRecDepth 100000 in
theorem rgained_any (v n : Int) (w : World) (v0 : -1000000000000000 ≤ v) (v1 : v ≤ 1000000000000000) (n0 : -100000 ≤ n) (n1 : n ≤ 100000) : Calls Tryd.prog 20 #[(.int .i64 v), (.int .i64 n)] w (Ret (.int .i64 (v * n / 1000)) w) := by
  have hm1 := mul_bd5 (a := v) (b := n) (A := 1000000000000000) (B := 100000) v0 v1 n0 n1
  have e0 : v * n = v * n := rfl
  refine calls_ax (vs := [(.int .i64 v), (.int .i64 n)]) Tryd.func20 rfl rfl ?_
  refine ac_seq (ac_region ?_)
  refine al_p (q_assign rfl) (al_end (aq_then ?_))
  refine ac_seq (ac_region ?_)
  refine al_p (q_move rfl) (al_callS Tryd.call45 (.cons rfl .nil) rfl rfl (fun w1 hs1 => ?_))
  refine (of_big v _ (by omega) (by omega)).mono ?_
  rintro e u1 ⟨v1, rfl, Vv1, hb_1⟩
  refine ⟨_, _, _, rfl, hs1.call1 hb_1, ?_⟩
  refine al_p (q_move rfl) (al_callS Tryd.call45 (.cons rfl .nil) rfl rfl (fun w2 hs2 => ?_))
  refine (of_big n _ (by omega) (by omega)).mono ?_
  rintro e u2 ⟨v2, rfl, Vv2, hb_2⟩
  refine ⟨_, _, _, rfl, hs2.call1 hb_2, ?_⟩
  refine al_callS Tryd.call44 (.cons rfl (.cons rfl .nil)) rfl rfl (fun w3 hs3 => ?_)
  refine (times_big v n v1 v2 _ (hs3.big1 (.tail _ (.head _)) Vv1) (hs3.big1 (.head _) Vv2) (by simp only [pw]; omega) (by simp only [pw]; omega)).mono ?_
  rintro e u3 ⟨v3, rfl, Vv3, hb_3⟩
  refine ⟨_, _, _, rfl, hs3.call1 hb_3, ?_⟩
  refine al_callS Tryd.call45 (.cons rfl .nil) rfl rfl (fun w4 hs4 => ?_)
  refine (of_big 1000 _ (by omega) (by omega)).mono ?_
  rintro e u4 ⟨v4, rfl, Vv4, hb_4⟩
  refine ⟨_, _, _, rfl, hs4.call1 hb_4, ?_⟩
  refine al_callS Tryd.call43 (.cons rfl (.cons rfl .nil)) rfl rfl (fun w5 hs5 => ?_)
  refine (floor_big (v * n) 1000 v3 v4 _ (hs5.big1 (.tail _ (.head _)) Vv3) (hs5.big1 (.head _) Vv4) (by simp only [pw]; omega) (by simp only [pw]; omega) (by omega)).mono ?_
  rintro e u5 ⟨v5, rfl, Vv5, hb_5⟩
  have Vw5 := Vv5.big
  refine ⟨_, _, _, rfl, hs5.call1 hb_5, ?_⟩
  refine al_call Tryd.call42 (.cons rfl .nil) rfl rfl (fun w6 hs6 => ?_)
  refine (int_any (flo (v * n) 1000) v5 _ (hs6.big1 (.head _) Vw5)).mono ?_
  rintro e u6 ⟨rfl, hb_6⟩
  refine ⟨_, rfl, hb_6, ?_⟩
  clear hs6
  refine al_p (q_move rfl) (al_p (q_extract rfl rfl) (al_p (q_extract rfl rfl) (al_p (q_assign rfl) (al_p (q_assign rfl) ?_))))
  refine al_end (aq_then ?_)
  refine ac_seq (ac_region ?_)
  refine al_p (q_move rfl) (al_p (q_assign rfl) (al_end (aq_then ?_)))
  refine ac_ret (ret1 Tryd.results20 rfl (fun w9 hs => ?_))
  refine ⟨?_, hs.below⟩; have e9 : flo (v * n) 1000 = v * n / 1000 := by unfold flo; rw [if_pos (by omega)]
  rw [e9]; unfold intL; rw [if_pos (by omega)]
theorem rdU_succ (M : MachD) (C : CurD) (zs : List FaultD) (sd tn k : Nat) : (List.range (k + 1)).flatMap (fun k => SpanD.cells (rdF M C zs sd tn k)) = (List.range k).flatMap (fun k => SpanD.cells (rdF M C zs sd tn k)) ++ SpanD.cells (rdF M C zs sd tn k) := by
  rw [List.range_succ, List.flatMap_append]; simp
theorem src_bl_apiSpan_0_1 (a0 a1 : Value) (ha0 : a0.oneCell' = true) (ha1 : a1.oneCell' = true) : ∀ w, (Instr.build 49 #[(0, a0), (1, a1)]).run Tryd.prog w = .ok (.agg #[a0, a1]) w := by
  have ea0 : a0.cells = #[a0] := cells_one ha0
  have ea1 : a1.cells = #[a1] := cells_one ha1
  intro w; simp [Instr.build, Instr.fill, cells_agg, Tryd.runUnderlying49, Tryd.zeroValue49, Tryd.sizeOf3, ea0, ea1]
theorem src_bs_apiSpan_1_0_ (c0_0 c0_1 : Value) : ∀ w, (Instr.buildSlice 42 1 #[(0, .agg #[c0_0, c0_1])]).run Tryd.prog w = .ok (.slice (some ⟨w.heap.size, 0, none⟩) 1 1) (w.alloc (.cells [c0_0, c0_1].toArray 49)) := by
  intro w; (simp [Instr.buildSlice, Instr.fill, cells_agg, newRow, Tryd.runUnderlying42, Tryd.zeroValue49, Tryd.sizeOf49] <;> (rw [(by kernel_rfl : Array.range 2 = #[0, 1])]; simp [Value.cells]))
set_option maxRecDepth 100000 in
theorem rread_ok (R : MachR) (M : MachD) (Q : CurR) (C : CurD) (F P : Option Addr) (nf cf np cp sd : Nat) (zs : List FaultD) (tn : Nat) (w : World) (hM : IsM w R M) (hC : IsC w Q C) (hF : IsT 4 FaultD.cells w F nf zs) (hn : nf ≤ 1000000000000000) (hv : Fit2 M C) (hfb : faultsB M zs = true) (htn : tn ≤ 1000000000) (hsd : sd < 4294967296) : Calls Tryd.prog 7 #[(.agg (machCells R M)), Q.v, (.agg #[.int .u32 ((sd : Nat) : Int), .slice F nf cf, .slice P np cp]), (.int .i64 (tn : Int))] w (OutT 2 SpanD.cells w 0 (rdL M C zs sd tn)) := by
  have hvc := fit2_iff.2 hv
  have hs0 := sound_of hv.check
  have hsn := hs0.sensors.1
  have hld := hM.sensors.1
  obtain ⟨hfl, hfs⟩ := faults_iff hfb
  have hnf := hF.1
  refine calls_ax (vs := [(.agg (machCells R M)), Q.v, (.agg #[.int .u32 ((sd : Nat) : Int), .slice F nf cf, .slice P np cp]), (.int .i64 (tn : Int))]) Tryd.func7 rfl rfl ?_
  refine ac_seq (ac_region ?_)
  refine al_new (fun b => .pointer (some ⟨b, 0, none⟩)) (r_box rfl rfl) rfl rfl rfl ?_
  intro b1
  refine al_new (fun b => .pointer (some ⟨b, 0, none⟩)) (r_box rfl rfl) rfl rfl rfl ?_
  intro b2
  refine al_new (fun b => .pointer (some ⟨b, 0, none⟩)) (r_box rfl rfl) rfl rfl rfl ?_
  intro b3
  refine al_p (q_assign rfl) (al_p (q_assign rfl) (al_end (aq_then ?_)))
  refine ac_seq (ac_block (ac_seq (ac_region ?_)))
  refine al_p (q_loadAll (i := 2) rfl rfl Tryd.isAgg29 Tryd.sizeOf29 rfl) (al_p (q_loadAll (i := 1) rfl rfl Tryd.isAgg32 Tryd.sizeOf32 rfl) (al_call Tryd.call16 (.cons rfl (.cons rfl .nil)) rfl rfl (fun w1 hs1 => ?_)))
  refine (rvalid2_any R M Q C _ (hM.below hs1.below) (hC.below hs1.below)).mono ?_
  rintro e u1 ⟨rfl, hb_1⟩
  refine ⟨_, rfl, hb_1, ?_⟩
  clear hs1
  refine al_p (q_not rfl) (al_p (q_move rfl) ?_)
  refine aq_split 22 rfl (fun hb1 => ?_) (fun hb1 => ?_)
  · exfalso; have h9 := hb1; rw [hvc] at h9; cases h9
  · skip
    refine al_p (q_loadAll (i := 2) rfl rfl Tryd.isAgg29 Tryd.sizeOf29 rfl) ?_
    refine al_p (q_fieldAddr 1 rfl Tryd.runUnderlying37 rfl Tryd.sizeOf34 (by decide) rfl) (al_p (q_load (i := 0) rfl rfl rfl Tryd.isAgg34) (al_call Tryd.call17 (.cons rfl (.cons rfl .nil)) rfl rfl (fun w2 hs2 => ?_)))
    refine (rvalidFaults_any R M F nf cf zs _ (hM.below hs2.below) (hF.below hs2.below) hn).mono ?_
    rintro e u2 ⟨rfl, hb_2⟩
    refine ⟨_, rfl, hb_2, ?_⟩
    clear hs2
    refine al_p (q_not rfl) (al_p (q_pickF rfl rfl) (al_p (q_assign rfl) (al_end (aq_then ?_))))
    refine ac_cond rfl (fun h1 => ?_) (fun h1 => ?_)
    · exfalso; have h9 := h1; rw [hfb] at h9; cases h9
    · skip
      refine ac_seq (ac_region ?_)
      refine al_p (q_move rfl) (al_call Tryd.call18 (.cons rfl (.cons rfl (.cons rfl .nil))) rfl rfl (fun w3 hs3 => ?_))
      refine (rwithin4b_any (tn : Int) 0 1000000000 _).mono ?_
      rintro e u3 ⟨rfl, rfl⟩
      refine ⟨_, rfl, (Below.refl _ _), ?_⟩
      clear hs3
      refine al_p (q_not rfl) (al_p (q_assign rfl) (al_end (aq_then ?_)))
      refine ac_cond rfl (fun h2 => ?_) (fun h2 => ?_)
      · exfalso; have h9 := h2; rw [wthn_iff.2 ⟨by omega, by omega⟩] at h9; cases h9
      · skip
        refine ac_skip (aq_inN (aq_then (ac_seq (ac_region ?_))))
        refine al_p (q_assign rfl) (al_end (aq_then ?_))
        refine ac_seq (ac_seq (ac_region ?_))
        refine al_p (q_assign rfl) (al_end (aq_then ?_))
        refine ac_block ?_
        refine ac_loop (β := Nat × Gr × List Value) (fun k => k.1 ≤ R.ld ∧ gok k.2.1 k.1 2 k.2.2 ∧ k.2.2 = ((List.range k.1).flatMap (fun k => SpanD.cells (rdF M C zs sd tn k)))) (fun k => [(3, (.int .i64 (tn : Int))), (4, (.pointer (some ⟨b1, 0, none⟩))), (5, (.pointer (some ⟨b2, 0, none⟩))), (6, (.pointer (some ⟨b3, 0, none⟩))), (8, (.slice none 0 0)), (9, (.int .i64 0)), (10, (.slice (gA k.2.1) k.1 (gC k.2.1))), (11, (.int .i64 (k.1 : Int)))]) (fun _ => _) (fun k => (b3, _) :: (b2, _) :: (b1, _) :: (gt k.2.1 k.2.2 ++ ([]))) (fun k => R.ld - k.1) (0, none, []) ⟨by simp, gok.none 2, rfl⟩ ⟨rfl, rfl, rfl, rfl, rfl, rfl, rfl, rfl, trivial⟩ (fun w9 hs => (by rw [show gt none [] = [] from rfl, List.nil_append]; exact hs)) (fun k hF1 => ?_)
        obtain ⟨hla, hgk, hcs⟩ := hF1
        refine ac_seq (ac_seq (ac_region ?_))
        refine al_p (q_move rfl) ?_
        refine al_p (q_fieldAddr 9 rfl Tryd.runUnderlying29 rfl Tryd.sizeOf27 (by decide) rfl) (al_p (q_load (i := 2) rfl rfl rfl Tryd.isAgg27) (al_p (q_lenS rfl Tryd.runUnderlying27) (al_p (q_lss rfl rfl) (al_end (aq_then ?_)))))
        refine ac_cond rfl (fun h3 => ?_) (fun h3 => ?_)
        · have hkl : k.1 < R.ld := by have := of_decide_eq_true h3; omega
          have hex := exactL_bd M C (k.1 : Int)
          refine ac_skip (aq_then (ac_seq (ac_block (ac_seq (ac_region ?_)))))
          refine al_p (q_loadAll (i := 2) rfl rfl Tryd.isAgg29 Tryd.sizeOf29 rfl) (al_p (q_loadAll (i := 1) rfl rfl Tryd.isAgg32 Tryd.sizeOf32 rfl) (al_p (q_move rfl) (al_call Tryd.call19 (.cons rfl (.cons rfl (.cons rfl .nil))) rfl rfl (fun w4 hs4 => ?_))))
          refine (rexact_any R M Q C (k.1 : Int) _ (hM.below hs4.below) (hC.below hs4.below)).mono ?_
          rintro e u4 ⟨rfl, hb_4⟩
          refine ⟨_, rfl, hb_4, ?_⟩
          clear hs4
          refine al_p (q_move rfl) (al_p (q_extract rfl rfl) (al_p (q_extract rfl rfl) (al_p (q_assign rfl) (al_p (q_assign rfl) ?_))))
          refine al_end (aq_then ?_)
          refine ac_seq (ac_seq (ac_region ?_))
          refine al_p (q_assign rfl) (al_end (aq_then ?_))
          refine ac_block (ac_loop (β := Nat × Int) (fun y => y.1 ≤ nf ∧ faultGo (k.1 : Int) (tn : Int) zs (exactL M C (k.1 : Int)).1 = faultGo (k.1 : Int) (tn : Int) (zs.drop y.1) y.2 ∧ -1000000000000000 ≤ y.2 ∧ y.2 ≤ 1000000000000000) (fun y => [(3, (.int .i64 (tn : Int))), (4, (.pointer (some ⟨b1, 0, none⟩))), (5, (.pointer (some ⟨b2, 0, none⟩))), (6, (.pointer (some ⟨b3, 0, none⟩))), (8, (.slice none 0 0)), (9, (.int .i64 0)), (10, (.slice (gA k.2.1) k.1 (gC k.2.1))), (11, (.int .i64 (k.1 : Int))), (12, (.int .i64 y.2)), (14, (.int .i64 (y.1 : Int))), (33, (.int .i64 (k.1 : Int))), (34, (.pointer (some ⟨b1, 9, none⟩))), (35, (.slice (R.D) R.ld R.cd)), (36, (.int .i64 (R.ld : Int))), (41, (.agg (machCells R M))), (42, Q.v), (43, (.int .i64 (k.1 : Int))), (45, (.int .i64 (exactL M C (k.1 : Int)).1)), (46, (.int .i64 (exactL M C (k.1 : Int)).2))]) (fun _ => _) (fun y => (b3, _) :: (b2, _) :: (b1, _) :: (gt k.2.1 k.2.2 ++ ([]))) (fun y => nf - y.1) (0, (exactL M C (k.1 : Int)).1) ⟨by simp, rfl, hex.1, hex.2⟩ ⟨rfl, rfl, rfl, rfl, rfl, rfl, rfl, rfl, rfl, rfl, rfl, rfl, rfl, rfl, rfl, rfl, rfl, rfl, rfl, trivial⟩ (fun w9 hs => hs) (fun y hF2 => ?_))
          obtain ⟨hyl, hyg, hy0, hy1⟩ := hF2
          refine ac_seq (ac_seq (ac_region ?_))
          refine al_p (q_move rfl) ?_
          refine al_p (q_fieldAddr 1 rfl Tryd.runUnderlying37 rfl Tryd.sizeOf34 (by decide) rfl) (al_p (q_load (i := 0) rfl rfl rfl Tryd.isAgg34) (al_p (q_lenS rfl Tryd.runUnderlying34) (al_p (q_lss rfl rfl) (al_end (aq_then ?_)))))
          refine ac_cond rfl (fun h4 => ?_) (fun h4 => ?_)
          · have hyk : y.1 < nf := by have := of_decide_eq_true h4; omega
            obtain ⟨b21, o21, hA2, hlt2, hget2⟩ := hF.2 (by omega)
            have hx2 := getD_get (l := zs) (d := ⟨0, 0, 0, 0⟩) (k := y.1) (by omega)
            have hfx := hfs _ (List.mem_of_getElem? hx2)
            have hgb := fun (h : (zs.getD y.1 ⟨0, 0, 0, 0⟩).kind = 2) => mul_bd5 (a := y.2) (b := (zs.getD y.1 ⟨0, 0, 0, 0⟩).n) (A := 1000000000000000) (B := 100000) hy0 hy1 (hfx.2.2.2 h).1 (hfx.2.2.2 h).2
            refine ac_skip (aq_then (ac_seq (ac_block (ac_seq (ac_region ?_)))))
            refine al_p (q_fieldAddr 1 rfl Tryd.runUnderlying37 rfl Tryd.sizeOf34 (by decide) rfl) (al_p (q_load (i := 0) rfl rfl rfl Tryd.isAgg34) (al_p (q_move rfl) ?_))
            refine al_p (q_indexAddrA (i := y.1) (o21 + y.1 * 4 + 0) hA2 rfl rfl rfl (by omega) Tryd.runUnderlying34 Tryd.sizeOf66 rfl) (al_p (q_loadXs (FaultD.cells (zs.getD y.1 ⟨0, 0, 0, 0⟩)) rfl Tryd.isAgg66 Tryd.sizeOf66 (fun w9 hs j9 v9 h9 => by rw [addr_add]; exact (hs.below.cell (p := ⟨_, _, none⟩) hlt2).trans ((hget2 y.1 _ hx2) j9 v9 h9)) rfl) (al_new (fun b => .pointer (some ⟨b, 0, none⟩)) (r_alloc Tryd.zeroValue66 rfl) rfl rfl rfl ?_))
            intro b4
            refine al_storeAll (i := 0) rfl rfl rfl rfl Tryd.sizeOf66 rfl rfl .k0 rfl (al_end (aq_then ?_))
            refine ac_seq (ac_seq (ac_region ?_))
            refine al_p (q_fieldAddr 1 rfl Tryd.runUnderlying66 rfl Tryd.sizeOf3 (by decide) rfl) (al_p (q_load (i := 0) rfl rfl rfl Tryd.isAgg3) (al_p (q_move rfl) (al_p (q_neq rfl rfl) (al_p (q_move rfl) ?_))))
            refine aq_split 63 rfl (fun hb2 => ?_) (fun hb2 => ?_)
            · have hne : ¬ (zs.getD y.1 ⟨0, 0, 0, 0⟩).sensor = (k.1 : Int) := by simpa using hb2
              refine al_skip rfl rfl rfl (al_skip rfl rfl rfl (al_skip rfl rfl rfl (al_skip rfl rfl rfl (al_p (q_pickT rfl rfl) ?_))))
              refine al_end (aq_then ?_)
              refine ac_condT rfl (ac_exit (aq_thenE (aq_hit (aq_then ?_))))
              refine ac_region (al_p (q_move rfl) ?_)
              refine al_p (q_add rfl rfl (by omega)) (al_p (q_assign rfl) (al_end (aq_then ?_)))
              skip
              refine aq_round ((y.1 + 1, y.2)) (by simp only; omega) ⟨by simp only; omega, by simp only; first | (exfalso; omega) | rw [hyg, faultGo_drop hx2]; first | rw [if_neg (fun h => hne h.1)] | rw [if_neg (fun h => absurd h.2 (by omega))] | (rw [if_pos ⟨heq, by omega⟩]; congr 1; unfold clampF effD; (repeat' split) <;> omega), by simp only; omega, by simp only; omega⟩ ⟨rfl, rfl, rfl, rfl, rfl, rfl, rfl, rfl, rfl, rfl, rfl, rfl, rfl, rfl, rfl, rfl, rfl, rfl, rfl, trivial⟩ (fun w9 hs => (hs.tail 1 rfl))
            · have heq : (zs.getD y.1 ⟨0, 0, 0, 0⟩).sensor = (k.1 : Int) := by simpa using hb2
              refine al_p (q_fieldAddr 0 rfl Tryd.runUnderlying66 rfl Tryd.sizeOf3 (by decide) rfl) (al_p (q_load (i := 0) rfl rfl rfl Tryd.isAgg3) (al_p (q_move rfl) (al_p (q_gtr rfl rfl) (al_p (q_pickF rfl rfl) ?_))))
              refine al_end (aq_then ?_)
              refine ac_cond rfl (fun h5 => ?_) (fun h5 => ?_)
              · have q_h5 := of_decide_eq_true h5
                refine ac_exit (aq_thenE (aq_hit (aq_then (ac_region ?_))))
                refine al_p (q_move rfl) ?_
                refine al_p (q_add rfl rfl (by omega)) (al_p (q_assign rfl) (al_end (aq_then ?_)))
                skip
                refine aq_round ((y.1 + 1, y.2)) (by simp only; omega) ⟨by simp only; omega, by simp only; first | (exfalso; omega) | rw [hyg, faultGo_drop hx2]; first | rw [if_neg (fun h => hne h.1)] | rw [if_neg (fun h => absurd h.2 (by omega))] | (rw [if_pos ⟨heq, by omega⟩]; congr 1; unfold clampF effD; (repeat' split) <;> omega), by simp only; omega, by simp only; omega⟩ ⟨rfl, rfl, rfl, rfl, rfl, rfl, rfl, rfl, rfl, rfl, rfl, rfl, rfl, rfl, rfl, rfl, rfl, rfl, rfl, trivial⟩ (fun w9 hs => (hs.tail 1 rfl))
              · have q_h5 := of_decide_eq_false h5
                refine ac_skip (aq_then (ac_seq (ac_seq (ac_region ?_))))
                refine al_p (q_fieldAddr 2 rfl Tryd.runUnderlying66 rfl Tryd.sizeOf3 (by decide) rfl) (al_p (q_load (i := 0) rfl rfl rfl Tryd.isAgg3) (al_end (aq_then ?_)))
                refine aq_keepL [3, 4, 5, 6, 8, 9, 10, 11, 12, 14, 15, 33, 34, 35, 36, 41, 42, 43, 45, 46, 47, 48, 49, 50, 51, 54, 55, 56, 57, 58, 59, 60, 61, 62, 63, 64, 65, 66, 67, 68, 69, 70] (.cons rfl (.cons rfl (.cons rfl (.cons rfl (.cons rfl (.cons rfl (.cons rfl (.cons rfl (.cons rfl (.cons rfl (.cons rfl (.cons rfl (.cons rfl (.cons rfl (.cons rfl (.cons rfl (.cons rfl (.cons rfl (.cons rfl (.cons rfl (.cons rfl (.cons rfl (.cons rfl (.cons rfl (.cons rfl (.cons rfl (.cons rfl (.cons rfl (.cons rfl (.cons rfl (.cons rfl (.cons rfl (.cons rfl (.cons rfl (.cons rfl (.cons rfl (.cons rfl (.cons rfl (.cons rfl (.cons rfl (.cons rfl (.cons rfl .nil)))))))))))))))))))))))))))))))))))))))))) ?_
                refine ac_block (ac_seq (ac_region ?_))
                refine al_p (q_eql rfl rfl) (al_p (q_assign rfl) (al_end (aq_then ?_)))
                refine ac_cond rfl (fun h6 => ?_) (fun h6 => ?_)
                · have q_h6 := of_decide_eq_true h6
                  refine ac_region (al_p (q_move rfl) ?_)
                  refine al_p (q_fieldAddr 3 rfl Tryd.runUnderlying66 rfl Tryd.sizeOf3 (by decide) rfl) (al_p (q_load (i := 0) rfl rfl rfl Tryd.isAgg3) ?_)
                  refine al_p (q_add rfl rfl (by omega)) (al_p (q_assign rfl) (al_end (aq_inN (aq_then ?_))))
                  refine ac_seq (ac_seq (ac_region ?_))
                  refine al_p (q_move rfl) (al_p (q_gtr rfl rfl) (al_end (aq_then ?_)))
                  refine ac_cond rfl (fun h7 => ?_) (fun h7 => ?_)
                  · have q_h7 := of_decide_eq_true h7
                    refine ac_region (al_p (q_assign rfl) (al_end (aq_then ?_)))
                    refine ac_seq (ac_region ?_)
                    refine al_p (q_move rfl) (al_p (q_lss rfl rfl) (al_end (aq_then ?_)))
                    refine ac_cond rfl (fun h8 => ?_) (fun h8 => ?_)
                    · have q_h8 := of_decide_eq_true h8
                      refine ac_region (al_p (q_assign rfl) (al_end (aq_inN (aq_then ?_))))
                      refine ac_region (al_p (q_move rfl) ?_)
                      refine al_p (q_add rfl rfl (by omega)) (al_p (q_assign rfl) (al_end (aq_then ?_)))
                      skip
                      refine aq_round ((y.1 + 1, (-500000000000000))) (by simp only; omega) ⟨by simp only; omega, by simp only; first | (exfalso; omega) | rw [hyg, faultGo_drop hx2]; first | rw [if_neg (fun h => hne h.1)] | rw [if_neg (fun h => absurd h.2 (by omega))] | (rw [if_pos ⟨heq, by omega⟩]; congr 1; unfold clampF effD; (repeat' split) <;> omega), by simp only; omega, by simp only; omega⟩ ⟨rfl, rfl, rfl, rfl, rfl, rfl, rfl, rfl, rfl, rfl, rfl, rfl, rfl, rfl, rfl, rfl, rfl, rfl, rfl, trivial⟩ (fun w9 hs => (hs.tail 1 rfl))
                    · have q_h8 := of_decide_eq_false h8
                      refine ac_skip (aq_inN (aq_then (ac_region (al_p (q_move rfl) ?_))))
                      refine al_p (q_add rfl rfl (by omega)) (al_p (q_assign rfl) (al_end (aq_then ?_)))
                      skip
                      refine aq_round ((y.1 + 1, 500000000000000)) (by simp only; omega) ⟨by simp only; omega, by simp only; first | (exfalso; omega) | rw [hyg, faultGo_drop hx2]; first | rw [if_neg (fun h => hne h.1)] | rw [if_neg (fun h => absurd h.2 (by omega))] | (rw [if_pos ⟨heq, by omega⟩]; congr 1; unfold clampF effD; (repeat' split) <;> omega), by simp only; omega, by simp only; omega⟩ ⟨rfl, rfl, rfl, rfl, rfl, rfl, rfl, rfl, rfl, rfl, rfl, rfl, rfl, rfl, rfl, rfl, rfl, rfl, rfl, trivial⟩ (fun w9 hs => (hs.tail 1 rfl))
                  · have q_h7 := of_decide_eq_false h7
                    refine ac_skip (aq_then (ac_seq (ac_region ?_)))
                    refine al_p (q_move rfl) (al_p (q_lss rfl rfl) (al_end (aq_then ?_)))
                    refine ac_cond rfl (fun h9 => ?_) (fun h9 => ?_)
                    · have q_h9 := of_decide_eq_true h9
                      refine ac_region (al_p (q_assign rfl) (al_end (aq_inN (aq_then ?_))))
                      refine ac_region (al_p (q_move rfl) ?_)
                      refine al_p (q_add rfl rfl (by omega)) (al_p (q_assign rfl) (al_end (aq_then ?_)))
                      skip
                      refine aq_round ((y.1 + 1, (-500000000000000))) (by simp only; omega) ⟨by simp only; omega, by simp only; first | (exfalso; omega) | rw [hyg, faultGo_drop hx2]; first | rw [if_neg (fun h => hne h.1)] | rw [if_neg (fun h => absurd h.2 (by omega))] | (rw [if_pos ⟨heq, by omega⟩]; congr 1; unfold clampF effD; (repeat' split) <;> omega), by simp only; omega, by simp only; omega⟩ ⟨rfl, rfl, rfl, rfl, rfl, rfl, rfl, rfl, rfl, rfl, rfl, rfl, rfl, rfl, rfl, rfl, rfl, rfl, rfl, trivial⟩ (fun w9 hs => (hs.tail 1 rfl))
                    · have q_h9 := of_decide_eq_false h9
                      refine ac_skip (aq_inN (aq_then (ac_region (al_p (q_move rfl) ?_))))
                      refine al_p (q_add rfl rfl (by omega)) (al_p (q_assign rfl) (al_end (aq_then ?_)))
                      skip
                      refine aq_round ((y.1 + 1, (y.2 + (zs.getD y.1 ⟨0, 0, 0, 0⟩).n))) (by simp only; omega) ⟨by simp only; omega, by simp only; first | (exfalso; omega) | rw [hyg, faultGo_drop hx2]; first | rw [if_neg (fun h => hne h.1)] | rw [if_neg (fun h => absurd h.2 (by omega))] | (rw [if_pos ⟨heq, by omega⟩]; congr 1; unfold clampF effD; (repeat' split) <;> omega), by simp only; omega, by simp only; omega⟩ ⟨rfl, rfl, rfl, rfl, rfl, rfl, rfl, rfl, rfl, rfl, rfl, rfl, rfl, rfl, rfl, rfl, rfl, rfl, rfl, trivial⟩ (fun w9 hs => (hs.tail 1 rfl))
                · have q_h6 := of_decide_eq_false h6
                  refine ac_seq (ac_region ?_)
                  refine al_p (q_eql rfl rfl) (al_p (q_assign rfl) (al_end (aq_then ?_)))
                  refine ac_cond rfl (fun h10 => ?_) (fun h10 => ?_)
                  · have q_h10 := of_decide_eq_true h10
                    refine ac_region (al_p (q_move rfl) ?_)
                    refine al_p (q_fieldAddr 3 rfl Tryd.runUnderlying66 rfl Tryd.sizeOf3 (by decide) rfl) (al_p (q_load (i := 0) rfl rfl rfl Tryd.isAgg3) (al_call Tryd.call20 (.cons rfl (.cons rfl .nil)) rfl rfl (fun w5 hs5 => ?_)))
                    refine (rgained_any y.2 (zs.getD y.1 ⟨0, 0, 0, 0⟩).n _ hy0 hy1 (hfx.2.2.2 (by assumption)).1 (hfx.2.2.2 (by assumption)).2).mono ?_
                    rintro e u5 ⟨rfl, hb_5⟩
                    refine ⟨_, rfl, hb_5, ?_⟩
                    clear hs5
                    refine al_p (q_assign rfl) (al_end (aq_inN (aq_then (ac_seq ?_))))
                    refine ac_seq (ac_region ?_)
                    refine al_p (q_move rfl) (al_p (q_gtr rfl rfl) (al_end (aq_then ?_)))
                    refine ac_cond rfl (fun h11 => ?_) (fun h11 => ?_)
                    · have q_h11 := of_decide_eq_true h11
                      refine ac_region (al_p (q_assign rfl) (al_end (aq_then ?_)))
                      refine ac_seq (ac_region ?_)
                      refine al_p (q_move rfl) (al_p (q_lss rfl rfl) (al_end (aq_then ?_)))
                      refine ac_cond rfl (fun h12 => ?_) (fun h12 => ?_)
                      · have q_h12 := of_decide_eq_true h12
                        refine ac_region (al_p (q_assign rfl) (al_end (aq_inN (aq_then ?_))))
                        refine ac_region (al_p (q_move rfl) ?_)
                        refine al_p (q_add rfl rfl (by omega)) (al_p (q_assign rfl) (al_end (aq_then ?_)))
                        skip
                        refine aq_round ((y.1 + 1, (-500000000000000))) (by simp only; omega) ⟨by simp only; omega, by simp only; first | (exfalso; omega) | rw [hyg, faultGo_drop hx2]; first | rw [if_neg (fun h => hne h.1)] | rw [if_neg (fun h => absurd h.2 (by omega))] | (rw [if_pos ⟨heq, by omega⟩]; congr 1; unfold clampF effD; (repeat' split) <;> omega), by simp only; omega, by simp only; omega⟩ ⟨rfl, rfl, rfl, rfl, rfl, rfl, rfl, rfl, rfl, rfl, rfl, rfl, rfl, rfl, rfl, rfl, rfl, rfl, rfl, trivial⟩ (fun w9 hs => ((hs.fewer 1 rfl).tail 1 rfl))
                      · have q_h12 := of_decide_eq_false h12
                        refine ac_skip (aq_inN (aq_then (ac_region (al_p (q_move rfl) ?_))))
                        refine al_p (q_add rfl rfl (by omega)) (al_p (q_assign rfl) (al_end (aq_then ?_)))
                        skip
                        refine aq_round ((y.1 + 1, 500000000000000)) (by simp only; omega) ⟨by simp only; omega, by simp only; first | (exfalso; omega) | rw [hyg, faultGo_drop hx2]; first | rw [if_neg (fun h => hne h.1)] | rw [if_neg (fun h => absurd h.2 (by omega))] | (rw [if_pos ⟨heq, by omega⟩]; congr 1; unfold clampF effD; (repeat' split) <;> omega), by simp only; omega, by simp only; omega⟩ ⟨rfl, rfl, rfl, rfl, rfl, rfl, rfl, rfl, rfl, rfl, rfl, rfl, rfl, rfl, rfl, rfl, rfl, rfl, rfl, trivial⟩ (fun w9 hs => ((hs.fewer 1 rfl).tail 1 rfl))
                    · have q_h11 := of_decide_eq_false h11
                      refine ac_skip (aq_then (ac_seq (ac_region ?_)))
                      refine al_p (q_move rfl) (al_p (q_lss rfl rfl) (al_end (aq_then ?_)))
                      refine ac_cond rfl (fun h13 => ?_) (fun h13 => ?_)
                      · have q_h13 := of_decide_eq_true h13
                        refine ac_region (al_p (q_assign rfl) (al_end (aq_inN (aq_then ?_))))
                        refine ac_region (al_p (q_move rfl) ?_)
                        refine al_p (q_add rfl rfl (by omega)) (al_p (q_assign rfl) (al_end (aq_then ?_)))
                        skip
                        refine aq_round ((y.1 + 1, (-500000000000000))) (by simp only; omega) ⟨by simp only; omega, by simp only; first | (exfalso; omega) | rw [hyg, faultGo_drop hx2]; first | rw [if_neg (fun h => hne h.1)] | rw [if_neg (fun h => absurd h.2 (by omega))] | (rw [if_pos ⟨heq, by omega⟩]; congr 1; unfold clampF effD; (repeat' split) <;> omega), by simp only; omega, by simp only; omega⟩ ⟨rfl, rfl, rfl, rfl, rfl, rfl, rfl, rfl, rfl, rfl, rfl, rfl, rfl, rfl, rfl, rfl, rfl, rfl, rfl, trivial⟩ (fun w9 hs => ((hs.fewer 1 rfl).tail 1 rfl))
                      · have q_h13 := of_decide_eq_false h13
                        refine ac_skip (aq_inN (aq_then (ac_region (al_p (q_move rfl) ?_))))
                        refine al_p (q_add rfl rfl (by omega)) (al_p (q_assign rfl) (al_end (aq_then ?_)))
                        skip
                        refine aq_round ((y.1 + 1, (y.2 * (zs.getD y.1 ⟨0, 0, 0, 0⟩).n / 1000))) (by simp only; omega) ⟨by simp only; omega, by simp only; first | (exfalso; omega) | rw [hyg, faultGo_drop hx2]; first | rw [if_neg (fun h => hne h.1)] | rw [if_neg (fun h => absurd h.2 (by omega))] | (rw [if_pos ⟨heq, by omega⟩]; congr 1; unfold clampF effD; (repeat' split) <;> omega), by simp only; omega, by simp only; omega⟩ ⟨rfl, rfl, rfl, rfl, rfl, rfl, rfl, rfl, rfl, rfl, rfl, rfl, rfl, rfl, rfl, rfl, rfl, rfl, rfl, trivial⟩ (fun w9 hs => ((hs.fewer 1 rfl).tail 1 rfl))
                  · have q_h10 := of_decide_eq_false h10
                    refine ac_seq (ac_region ?_)
                    refine al_p (q_eql rfl rfl) (al_p (q_assign rfl) (al_end (aq_then ?_)))
                    refine ac_cond rfl (fun h14 => ?_) (fun h14 => ?_)
                    · have q_h14 := of_decide_eq_true h14
                      refine ac_region (al_p (q_assign rfl) (al_end (aq_inN (aq_then ?_))))
                      refine ac_seq (ac_seq (ac_region ?_))
                      refine al_p (q_move rfl) (al_p (q_gtr rfl rfl) (al_end (aq_then ?_)))
                      refine aq_keepL [3, 4, 5, 6, 8, 9, 10, 11, 12, 14, 15, 33, 34, 35, 36, 41, 42, 43, 45, 46, 47, 48, 49, 50, 51, 54, 55, 56, 57, 58, 59, 60, 61, 62, 63, 64, 65, 66, 67, 68, 69, 70, 71, 72, 77, 78, 83, 84, 85, 86] (.cons rfl (.cons rfl (.cons rfl (.cons rfl (.cons rfl (.cons rfl (.cons rfl (.cons rfl (.cons rfl (.cons rfl (.cons rfl (.cons rfl (.cons rfl (.cons rfl (.cons rfl (.cons rfl (.cons rfl (.cons rfl (.cons rfl (.cons rfl (.cons rfl (.cons rfl (.cons rfl (.cons rfl (.cons rfl (.cons rfl (.cons rfl (.cons rfl (.cons rfl (.cons rfl (.cons rfl (.cons rfl (.cons rfl (.cons rfl (.cons rfl (.cons rfl (.cons rfl (.cons rfl (.cons rfl (.cons rfl (.cons rfl (.cons rfl (.cons rfl (.cons rfl (.cons rfl (.cons rfl (.cons rfl (.cons rfl (.cons rfl (.cons rfl .nil)))))))))))))))))))))))))))))))))))))))))))))))))) ?_
                      refine ac_cond rfl (fun h15 => ?_) (fun h15 => ?_)
                      · have q_h15 := of_decide_eq_true h15
                        refine ac_region (al_p (q_assign rfl) (al_end (aq_then ?_)))
                        refine ac_seq (ac_region ?_)
                        refine al_p (q_move rfl) (al_p (q_lss rfl rfl) (al_end (aq_then ?_)))
                        refine ac_cond rfl (fun h16 => ?_) (fun h16 => ?_)
                        · have q_h16 := of_decide_eq_true h16
                          refine ac_region (al_p (q_assign rfl) (al_end (aq_inN (aq_then ?_))))
                          refine ac_region (al_p (q_move rfl) ?_)
                          refine al_p (q_add rfl rfl (by omega)) (al_p (q_assign rfl) (al_end (aq_then ?_)))
                          skip
                          refine aq_round ((y.1 + 1, (-500000000000000))) (by simp only; omega) ⟨by simp only; omega, by simp only; first | (exfalso; omega) | rw [hyg, faultGo_drop hx2]; first | rw [if_neg (fun h => hne h.1)] | rw [if_neg (fun h => absurd h.2 (by omega))] | (rw [if_pos ⟨heq, by omega⟩]; congr 1; unfold clampF effD; (repeat' split) <;> omega), by simp only; omega, by simp only; omega⟩ ⟨rfl, rfl, rfl, rfl, rfl, rfl, rfl, rfl, rfl, rfl, rfl, rfl, rfl, rfl, rfl, rfl, rfl, rfl, rfl, trivial⟩ (fun w9 hs => (hs.tail 1 rfl))
                        · have q_h16 := of_decide_eq_false h16
                          refine ac_skip (aq_inN (aq_then (ac_region (al_p (q_move rfl) ?_))))
                          refine al_p (q_add rfl rfl (by omega)) (al_p (q_assign rfl) (al_end (aq_then ?_)))
                          skip
                          refine aq_round ((y.1 + 1, 500000000000000)) (by simp only; omega) ⟨by simp only; omega, by simp only; first | (exfalso; omega) | rw [hyg, faultGo_drop hx2]; first | rw [if_neg (fun h => hne h.1)] | rw [if_neg (fun h => absurd h.2 (by omega))] | (rw [if_pos ⟨heq, by omega⟩]; congr 1; unfold clampF effD; (repeat' split) <;> omega), by simp only; omega, by simp only; omega⟩ ⟨rfl, rfl, rfl, rfl, rfl, rfl, rfl, rfl, rfl, rfl, rfl, rfl, rfl, rfl, rfl, rfl, rfl, rfl, rfl, trivial⟩ (fun w9 hs => (hs.tail 1 rfl))
                      · have q_h15 := of_decide_eq_false h15
                        refine ac_skip (aq_then (ac_seq (ac_region ?_)))
                        refine al_p (q_move rfl) (al_p (q_lss rfl rfl) (al_end (aq_then ?_)))
                        refine ac_cond rfl (fun h17 => ?_) (fun h17 => ?_)
                        · have q_h17 := of_decide_eq_true h17
                          refine ac_region (al_p (q_assign rfl) (al_end (aq_inN (aq_then ?_))))
                          refine ac_region (al_p (q_move rfl) ?_)
                          refine al_p (q_add rfl rfl (by omega)) (al_p (q_assign rfl) (al_end (aq_then ?_)))
                          skip
                          refine aq_round ((y.1 + 1, (-500000000000000))) (by simp only; omega) ⟨by simp only; omega, by simp only; first | (exfalso; omega) | rw [hyg, faultGo_drop hx2]; first | rw [if_neg (fun h => hne h.1)] | rw [if_neg (fun h => absurd h.2 (by omega))] | (rw [if_pos ⟨heq, by omega⟩]; congr 1; unfold clampF effD; (repeat' split) <;> omega), by simp only; omega, by simp only; omega⟩ ⟨rfl, rfl, rfl, rfl, rfl, rfl, rfl, rfl, rfl, rfl, rfl, rfl, rfl, rfl, rfl, rfl, rfl, rfl, rfl, trivial⟩ (fun w9 hs => (hs.tail 1 rfl))
                        · have q_h17 := of_decide_eq_false h17
                          refine ac_skip (aq_inN (aq_then (ac_region (al_p (q_move rfl) ?_))))
                          refine al_p (q_add rfl rfl (by omega)) (al_p (q_assign rfl) (al_end (aq_then ?_)))
                          skip
                          refine aq_round ((y.1 + 1, 0)) (by simp only; omega) ⟨by simp only; omega, by simp only; first | (exfalso; omega) | rw [hyg, faultGo_drop hx2]; first | rw [if_neg (fun h => hne h.1)] | rw [if_neg (fun h => absurd h.2 (by omega))] | (rw [if_pos ⟨heq, by omega⟩]; congr 1; unfold clampF effD; (repeat' split) <;> omega), by simp only; omega, by simp only; omega⟩ ⟨rfl, rfl, rfl, rfl, rfl, rfl, rfl, rfl, rfl, rfl, rfl, rfl, rfl, rfl, rfl, rfl, rfl, rfl, rfl, trivial⟩ (fun w9 hs => (hs.tail 1 rfl))
                    · have q_h14 := of_decide_eq_false h14
                      refine ac_skip (aq_inN (aq_then (ac_seq (ac_seq (ac_region ?_)))))
                      refine al_p (q_move rfl) (al_p (q_gtr rfl rfl) (al_end (aq_then ?_)))
                      refine ac_cond rfl (fun h18 => ?_) (fun h18 => ?_)
                      · have q_h18 := of_decide_eq_true h18
                        refine ac_region (al_p (q_assign rfl) (al_end (aq_then ?_)))
                        refine ac_seq (ac_region ?_)
                        refine al_p (q_move rfl) (al_p (q_lss rfl rfl) (al_end (aq_then ?_)))
                        refine ac_cond rfl (fun h19 => ?_) (fun h19 => ?_)
                        · have q_h19 := of_decide_eq_true h19
                          refine ac_region (al_p (q_assign rfl) (al_end (aq_inN (aq_then ?_))))
                          refine ac_region (al_p (q_move rfl) ?_)
                          refine al_p (q_add rfl rfl (by omega)) (al_p (q_assign rfl) (al_end (aq_then ?_)))
                          skip
                          refine aq_round ((y.1 + 1, (-500000000000000))) (by simp only; omega) ⟨by simp only; omega, by simp only; first | (exfalso; omega) | rw [hyg, faultGo_drop hx2]; first | rw [if_neg (fun h => hne h.1)] | rw [if_neg (fun h => absurd h.2 (by omega))] | (rw [if_pos ⟨heq, by omega⟩]; congr 1; unfold clampF effD; (repeat' split) <;> omega), by simp only; omega, by simp only; omega⟩ ⟨rfl, rfl, rfl, rfl, rfl, rfl, rfl, rfl, rfl, rfl, rfl, rfl, rfl, rfl, rfl, rfl, rfl, rfl, rfl, trivial⟩ (fun w9 hs => (hs.tail 1 rfl))
                        · have q_h19 := of_decide_eq_false h19
                          refine ac_skip (aq_inN (aq_then (ac_region (al_p (q_move rfl) ?_))))
                          refine al_p (q_add rfl rfl (by omega)) (al_p (q_assign rfl) (al_end (aq_then ?_)))
                          skip
                          refine aq_round ((y.1 + 1, 500000000000000)) (by simp only; omega) ⟨by simp only; omega, by simp only; first | (exfalso; omega) | rw [hyg, faultGo_drop hx2]; first | rw [if_neg (fun h => hne h.1)] | rw [if_neg (fun h => absurd h.2 (by omega))] | (rw [if_pos ⟨heq, by omega⟩]; congr 1; unfold clampF effD; (repeat' split) <;> omega), by simp only; omega, by simp only; omega⟩ ⟨rfl, rfl, rfl, rfl, rfl, rfl, rfl, rfl, rfl, rfl, rfl, rfl, rfl, rfl, rfl, rfl, rfl, rfl, rfl, trivial⟩ (fun w9 hs => (hs.tail 1 rfl))
                      · have q_h18 := of_decide_eq_false h18
                        refine ac_skip (aq_then (ac_seq (ac_region ?_)))
                        refine al_p (q_move rfl) (al_p (q_lss rfl rfl) (al_end (aq_then ?_)))
                        refine ac_cond rfl (fun h20 => ?_) (fun h20 => ?_)
                        · have q_h20 := of_decide_eq_true h20
                          refine ac_region (al_p (q_assign rfl) (al_end (aq_inN (aq_then ?_))))
                          refine ac_region (al_p (q_move rfl) ?_)
                          refine al_p (q_add rfl rfl (by omega)) (al_p (q_assign rfl) (al_end (aq_then ?_)))
                          skip
                          refine aq_round ((y.1 + 1, (-500000000000000))) (by simp only; omega) ⟨by simp only; omega, by simp only; first | (exfalso; omega) | rw [hyg, faultGo_drop hx2]; first | rw [if_neg (fun h => hne h.1)] | rw [if_neg (fun h => absurd h.2 (by omega))] | (rw [if_pos ⟨heq, by omega⟩]; congr 1; unfold clampF effD; (repeat' split) <;> omega), by simp only; omega, by simp only; omega⟩ ⟨rfl, rfl, rfl, rfl, rfl, rfl, rfl, rfl, rfl, rfl, rfl, rfl, rfl, rfl, rfl, rfl, rfl, rfl, rfl, trivial⟩ (fun w9 hs => (hs.tail 1 rfl))
                        · have q_h20 := of_decide_eq_false h20
                          refine ac_skip (aq_inN (aq_then (ac_region (al_p (q_move rfl) ?_))))
                          refine al_p (q_add rfl rfl (by omega)) (al_p (q_assign rfl) (al_end (aq_then ?_)))
                          skip
                          refine aq_round ((y.1 + 1, y.2)) (by simp only; omega) ⟨by simp only; omega, by simp only; first | (exfalso; omega) | rw [hyg, faultGo_drop hx2]; first | rw [if_neg (fun h => hne h.1)] | rw [if_neg (fun h => absurd h.2 (by omega))] | (rw [if_pos ⟨heq, by omega⟩]; congr 1; unfold clampF effD; (repeat' split) <;> omega), by simp only; omega, by simp only; omega⟩ ⟨rfl, rfl, rfl, rfl, rfl, rfl, rfl, rfl, rfl, rfl, rfl, rfl, rfl, rfl, rfl, rfl, rfl, rfl, rfl, trivial⟩ (fun w9 hs => (hs.tail 1 rfl))
          · have hye9 : y.1 = nf := by have := of_decide_eq_false h4; omega
            refine ac_exit (aq_thenE (aq_thenE (aq_hit (aq_then ?_))))
            refine ac_seq ?_
            have hye : y.1 = nf := hye9
            have hyv : faultGo (k.1 : Int) (tn : Int) zs (exactL M C (k.1 : Int)).1 = y.2 := by rw [hyg, List.drop_eq_nil_of_le (by omega)]; rfl
            obtain ⟨b11, o11, hA1, hlt1, hget1⟩ := hM.sensors.2 (by omega)
            have hx1 := getD_get (l := M.sensors) (d := ⟨⟨#[]⟩, 0, 0, 0, 0⟩) (k := k.1) (by omega)
            have hse := (hs0.sensors.2 _ (List.mem_of_getElem? hx1)).2.2
            have hmx := mixN_lt sd tn k.1
            have hmt := tmod_bd (m := (mixN sd tn k.1 : Int)) (d := 2 * (M.sensors.getD k.1 ⟨⟨#[]⟩, 0, 0, 0, 0⟩).error + 1) (by omega) (by omega)
            have hlo : (y.2 + (mixN sd tn k.1 : Int).tmod (2 * (M.sensors.getD k.1 ⟨⟨#[]⟩, 0, 0, 0, 0⟩).error + 1) - (M.sensors.getD k.1 ⟨⟨#[]⟩, 0, 0, 0, 0⟩).error - (M.sensors.getD k.1 ⟨⟨#[]⟩, 0, 0, 0, 0⟩).error) = (rdF M C zs sd tn k.1).lo := by unfold rdF; simp only; rw [hyv]; omega
            have hhi : (y.2 + (mixN sd tn k.1 : Int).tmod (2 * (M.sensors.getD k.1 ⟨⟨#[]⟩, 0, 0, 0, 0⟩).error + 1) - (M.sensors.getD k.1 ⟨⟨#[]⟩, 0, 0, 0, 0⟩).error + (M.sensors.getD k.1 ⟨⟨#[]⟩, 0, 0, 0, 0⟩).error) = (rdF M C zs sd tn k.1).hi := by unfold rdF; simp only; rw [hyv]; omega
            refine ac_region ?_
            refine al_p (q_fieldAddr 9 rfl Tryd.runUnderlying29 rfl Tryd.sizeOf27 (by decide) rfl) (al_p (q_load (i := 2) rfl rfl rfl Tryd.isAgg27) (al_p (q_move rfl) ?_))
            refine al_p (q_indexAddrA (i := k.1) (o11 + k.1 * 5 + 0) hA1 rfl rfl rfl (by omega) Tryd.runUnderlying27 Tryd.sizeOf57 rfl) ?_
            refine al_p (q_fieldAddr (o11 + k.1 * 5 + 4) rfl Tryd.runUnderlying57 rfl Tryd.sizeOf3 (by decide) rfl) (al_p (q_loadX rfl Tryd.isAgg3 (fun w9 hs => (hs.below.cell (p := ⟨_, _, none⟩) hlt1).trans ((hget1 k.1 _ hx1) 4 _ rfl))) (al_p (q_assign rfl) (al_end (aq_then ?_))))
            refine ac_seq (ac_region ?_)
            refine al_p (q_move rfl) ?_
            refine al_p (q_fieldAddr 0 rfl Tryd.runUnderlying37 rfl Tryd.sizeOf33 (by decide) rfl) (al_p (q_load (i := 0) rfl rfl rfl Tryd.isAgg33) (al_p (q_move rfl) ?_))
            refine al_p (q_convI rfl Tryd.underlying3 Tryd.underlying33 (by go_arith)) (al_p (q_move rfl) ?_)
            refine al_p (q_convI rfl Tryd.underlying3 Tryd.underlying33 (by go_arith)) (al_call Tryd.call21 (.cons rfl (.cons rfl (.cons rfl .nil))) rfl rfl (fun w6 hs6 => ?_))
            refine (rmix_any sd tn k.1 _ hsd (by omega) (by omega)).mono ?_
            rintro e u6 ⟨rfl, hb_6⟩
            refine ⟨_, rfl, hb_6, ?_⟩
            clear hs6
            refine al_p (q_convI rfl Tryd.underlying33 Tryd.underlying3 (by go_arith)) (al_p (q_move rfl) ?_)
            refine al_p (q_mul rfl rfl (by omega)) ?_
            refine al_p (q_add rfl rfl (by omega)) ?_
            refine al_p (q_rem rfl rfl (by omega)) ?_
            refine al_p (q_add rfl rfl (by omega)) (al_p (q_move rfl) ?_)
            refine al_p (q_sub rfl rfl (by omega)) (al_p (q_assign rfl) (al_end (aq_then ?_)))
            refine aq_keepL [3, 4, 5, 6, 8, 9, 10, 11, 12, 14, 16, 33, 34, 35, 36, 41, 42, 43, 45, 46, 47, 48, 49, 50, 51, 89, 90, 91, 92, 93, 94, 95, 96, 97, 98, 99, 100, 101, 102, 103, 104, 105, 106, 107, 108, 109, 110] (.cons rfl (.cons rfl (.cons rfl (.cons rfl (.cons rfl (.cons rfl (.cons rfl (.cons rfl (.cons rfl (.cons rfl (.cons rfl (.cons rfl (.cons rfl (.cons rfl (.cons rfl (.cons rfl (.cons rfl (.cons rfl (.cons rfl (.cons rfl (.cons rfl (.cons rfl (.cons rfl (.cons rfl (.cons rfl (.cons rfl (.cons rfl (.cons rfl (.cons rfl (.cons rfl (.cons rfl (.cons rfl (.cons rfl (.cons rfl (.cons rfl (.cons rfl (.cons rfl (.cons rfl (.cons rfl (.cons rfl (.cons rfl (.cons rfl (.cons rfl (.cons rfl (.cons rfl (.cons rfl (.cons rfl .nil))))))))))))))))))))))))))))))))))))))))))))))) ?_
            refine ac_region (al_p (q_move rfl) (al_p (q_move rfl) (al_p (q_move rfl) ?_)))
            refine al_p (q_sub rfl rfl (by omega)) (al_p (q_move rfl) (al_p (q_move rfl) ?_))
            refine al_p (q_add rfl rfl (by omega)) (al_p (q_build (.cons rfl (.cons rfl .nil)) (src_bl_apiSpan_0_1 _ _ rfl rfl)) (al_new (fun b => .slice (some ⟨b, 0, none⟩) 1 1) (r_buildSlice (.cons rfl .nil) (src_bs_apiSpan_1_0_ _ _)) rfl rfl rfl ?_))
            intro b5
            refine al_grow (z := 2) (bytes := 16) (zv := (.agg #[.int .i64 0, .int .i64 0])) (o := k.2.1) (cs := k.2.2) (vs := [.int .i64 (y.2 + (mixN sd tn k.1 : Int).tmod (2 * (M.sensors.getD k.1 ⟨⟨#[]⟩, 0, 0, 0, 0⟩).error + 1) - (M.sensors.getD k.1 ⟨⟨#[]⟩, 0, 0, 0, 0⟩).error - (M.sensors.getD k.1 ⟨⟨#[]⟩, 0, 0, 0, 0⟩).error), .int .i64 (y.2 + (mixN sd tn k.1 : Int).tmod (2 * (M.sensors.getD k.1 ⟨⟨#[]⟩, 0, 0, 0, 0⟩).error + 1) - (M.sensors.getD k.1 ⟨⟨#[]⟩, 0, 0, 0, 0⟩).error + (M.sensors.getD k.1 ⟨⟨#[]⟩, 0, 0, 0, 0⟩).error)]) rfl rfl (.s (.s (.s (.s (.z))))) hgk (Sor.box (j := 0) rfl rfl rfl) Tryd.underlying42 (by kernel_rfl) rfl (by omega) (by decide) rfl rfl (fun o_1 g_1 => ?_)
            refine ⟨_, (.s (.s (.s (.s (.z))))), ?_⟩
            refine al_p (q_assign rfl) (al_end (aq_inN (aq_then (ac_region ?_))))
            refine al_p (q_move rfl) ?_
            refine al_p (q_add rfl rfl (by omega)) (al_p (q_assign rfl) (al_end (aq_then ?_)))
            skip
            refine aq_round ((k.1 + 1, o_1, (k.2.2 ++ [.int .i64 (y.2 + (mixN sd tn k.1 : Int).tmod (2 * (M.sensors.getD k.1 ⟨⟨#[]⟩, 0, 0, 0, 0⟩).error + 1) - (M.sensors.getD k.1 ⟨⟨#[]⟩, 0, 0, 0, 0⟩).error - (M.sensors.getD k.1 ⟨⟨#[]⟩, 0, 0, 0, 0⟩).error), .int .i64 (y.2 + (mixN sd tn k.1 : Int).tmod (2 * (M.sensors.getD k.1 ⟨⟨#[]⟩, 0, 0, 0, 0⟩).error + 1) - (M.sensors.getD k.1 ⟨⟨#[]⟩, 0, 0, 0, 0⟩).error + (M.sensors.getD k.1 ⟨⟨#[]⟩, 0, 0, 0, 0⟩).error)]))) (by simp only; omega) ⟨by simp only; omega, g_1, by simp only; rw [hcs, rdU_succ, hlo, hhi]; rfl⟩ ⟨rfl, rfl, rfl, rfl, rfl, rfl, rfl, rfl, trivial⟩ (fun w9 hs => ((hs.fewer 2 rfl).tail 1 rfl))
        · have hke : k.1 = R.ld := by have := of_decide_eq_false h3; omega
          refine ac_exit (aq_thenE (aq_thenE (aq_hit (aq_then ?_))))
          refine ac_seq (ac_region ?_)
          refine al_p (q_move rfl) (al_p (q_assign rfl) (al_p (q_assign rfl) (al_end (aq_then ?_))))
          refine ac_ret (ret2 Tryd.results7 rfl rfl (fun w9 hs => ?_))
          exact OutT.ok (by have h9 := hs.grown (enc := SpanD.cells) (o := k.2.1) (cs := k.2.2) (zs := rdL M C zs sd tn) (fun _ => rfl) (fun y hy => by simp [hy]) hgk (by rw [hcs, hke, rdL_flat, hld]) (by rw [rdL_len, hld, hke]); exact h9) hs.below
set_option maxRecDepth 100000 in
theorem rread_bad (R : MachR) (M : MachD) (Q : CurR) (C : CurD) (F P : Option Addr) (nf cf np cp sd : Nat) (zs : List FaultD) (t : Int) (w : World) (hM : IsM w R M) (hC : IsC w Q C) (hF : IsT 4 FaultD.cells w F nf zs) (hn : nf ≤ 1000000000000000) (hb : validC M C = false ∨ faultsB M zs = false) : Calls Tryd.prog 7 #[(.agg (machCells R M)), Q.v, (.agg #[.int .u32 ((sd : Nat) : Int), .slice F nf cf, .slice P np cp]), (.int .i64 t)] w (OutT 2 SpanD.cells w 1 []) := by
  refine calls_ax (vs := [(.agg (machCells R M)), Q.v, (.agg #[.int .u32 ((sd : Nat) : Int), .slice F nf cf, .slice P np cp]), (.int .i64 t)]) Tryd.func7 rfl rfl ?_
  refine ac_seq (ac_region ?_)
  refine al_new (fun b => .pointer (some ⟨b, 0, none⟩)) (r_box rfl rfl) rfl rfl rfl ?_
  intro b1
  refine al_new (fun b => .pointer (some ⟨b, 0, none⟩)) (r_box rfl rfl) rfl rfl rfl ?_
  intro b2
  refine al_new (fun b => .pointer (some ⟨b, 0, none⟩)) (r_box rfl rfl) rfl rfl rfl ?_
  intro b3
  refine al_p (q_assign rfl) (al_p (q_assign rfl) (al_end (aq_then ?_)))
  refine ac_seq (ac_block (ac_seq (ac_region ?_)))
  refine al_p (q_loadAll (i := 2) rfl rfl Tryd.isAgg29 Tryd.sizeOf29 rfl) (al_p (q_loadAll (i := 1) rfl rfl Tryd.isAgg32 Tryd.sizeOf32 rfl) (al_call Tryd.call16 (.cons rfl (.cons rfl .nil)) rfl rfl (fun w1 hs1 => ?_)))
  refine (rvalid2_any R M Q C _ (hM.below hs1.below) (hC.below hs1.below)).mono ?_
  rintro e u1 ⟨rfl, hb_1⟩
  refine ⟨_, rfl, hb_1, ?_⟩
  clear hs1
  refine al_p (q_not rfl) (al_p (q_move rfl) ?_)
  refine aq_split 22 rfl (fun hb1 => ?_) (fun hb1 => ?_)
  · skip
    refine al_skip rfl rfl rfl (al_skip rfl rfl rfl (al_skip rfl rfl rfl (al_skip rfl rfl rfl (al_skip rfl rfl rfl ?_))))
    refine al_p (q_pickT rfl rfl) (al_p (q_assign rfl) (al_end (aq_then ?_)))
    refine ac_condT rfl (ac_seq (ac_region ?_))
    refine al_p (q_assign rfl) (al_p (q_assign rfl) (al_end (aq_then ?_)))
    refine ac_ret (aq_inR (aq_thenR (ret2 Tryd.results7 rfl rfl (fun w9 hs => ?_))))
    exact OutT.nil hs.below
  · have q1 : validC M C = true := by simpa using hb1
    have q2 : faultsB M zs = false := hb.resolve_left (by rw [q1]; decide)
    refine al_p (q_loadAll (i := 2) rfl rfl Tryd.isAgg29 Tryd.sizeOf29 rfl) ?_
    refine al_p (q_fieldAddr 1 rfl Tryd.runUnderlying37 rfl Tryd.sizeOf34 (by decide) rfl) (al_p (q_load (i := 0) rfl rfl rfl Tryd.isAgg34) (al_call Tryd.call17 (.cons rfl (.cons rfl .nil)) rfl rfl (fun w2 hs2 => ?_)))
    refine (rvalidFaults_any R M F nf cf zs _ (hM.below hs2.below) (hF.below hs2.below) hn).mono ?_
    rintro e u2 ⟨rfl, hb_2⟩
    refine ⟨_, rfl, hb_2, ?_⟩
    clear hs2
    refine al_p (q_not rfl) (al_p (q_pickF rfl rfl) (al_p (q_assign rfl) (al_end (aq_then ?_))))
    refine ac_cond rfl (fun h1 => ?_) (fun h1 => ?_)
    · skip
      refine ac_seq (ac_region ?_)
      refine al_p (q_assign rfl) (al_p (q_assign rfl) (al_end (aq_then ?_)))
      refine ac_ret (aq_inR (aq_thenR (ret2 Tryd.results7 rfl rfl (fun w9 hs => ?_))))
      exact OutT.nil hs.below
    · exfalso; have h9 := h1; rw [q2] at h9; cases h9
set_option maxRecDepth 100000 in
theorem rread_far (R : MachR) (M : MachD) (Q : CurR) (C : CurD) (F P : Option Addr) (nf cf np cp sd : Nat) (zs : List FaultD) (t : Int) (w : World) (hM : IsM w R M) (hC : IsC w Q C) (hF : IsT 4 FaultD.cells w F nf zs) (hn : nf ≤ 1000000000000000) (hvc : validC M C = true) (hfb : faultsB M zs = true) (ht : wthn t 0 1000000000 = false) : Calls Tryd.prog 7 #[(.agg (machCells R M)), Q.v, (.agg #[.int .u32 ((sd : Nat) : Int), .slice F nf cf, .slice P np cp]), (.int .i64 t)] w (OutT 2 SpanD.cells w 7 []) := by
  refine calls_ax (vs := [(.agg (machCells R M)), Q.v, (.agg #[.int .u32 ((sd : Nat) : Int), .slice F nf cf, .slice P np cp]), (.int .i64 t)]) Tryd.func7 rfl rfl ?_
  refine ac_seq (ac_region ?_)
  refine al_new (fun b => .pointer (some ⟨b, 0, none⟩)) (r_box rfl rfl) rfl rfl rfl ?_
  intro b1
  refine al_new (fun b => .pointer (some ⟨b, 0, none⟩)) (r_box rfl rfl) rfl rfl rfl ?_
  intro b2
  refine al_new (fun b => .pointer (some ⟨b, 0, none⟩)) (r_box rfl rfl) rfl rfl rfl ?_
  intro b3
  refine al_p (q_assign rfl) (al_p (q_assign rfl) (al_end (aq_then ?_)))
  refine ac_seq (ac_block (ac_seq (ac_region ?_)))
  refine al_p (q_loadAll (i := 2) rfl rfl Tryd.isAgg29 Tryd.sizeOf29 rfl) (al_p (q_loadAll (i := 1) rfl rfl Tryd.isAgg32 Tryd.sizeOf32 rfl) (al_call Tryd.call16 (.cons rfl (.cons rfl .nil)) rfl rfl (fun w1 hs1 => ?_)))
  refine (rvalid2_any R M Q C _ (hM.below hs1.below) (hC.below hs1.below)).mono ?_
  rintro e u1 ⟨rfl, hb_1⟩
  refine ⟨_, rfl, hb_1, ?_⟩
  clear hs1
  refine al_p (q_not rfl) (al_p (q_move rfl) ?_)
  refine aq_split 22 rfl (fun hb1 => ?_) (fun hb1 => ?_)
  · exfalso; have h9 := hb1; rw [hvc] at h9; cases h9
  · skip
    refine al_p (q_loadAll (i := 2) rfl rfl Tryd.isAgg29 Tryd.sizeOf29 rfl) ?_
    refine al_p (q_fieldAddr 1 rfl Tryd.runUnderlying37 rfl Tryd.sizeOf34 (by decide) rfl) (al_p (q_load (i := 0) rfl rfl rfl Tryd.isAgg34) (al_call Tryd.call17 (.cons rfl (.cons rfl .nil)) rfl rfl (fun w2 hs2 => ?_)))
    refine (rvalidFaults_any R M F nf cf zs _ (hM.below hs2.below) (hF.below hs2.below) hn).mono ?_
    rintro e u2 ⟨rfl, hb_2⟩
    refine ⟨_, rfl, hb_2, ?_⟩
    clear hs2
    refine al_p (q_not rfl) (al_p (q_pickF rfl rfl) (al_p (q_assign rfl) (al_end (aq_then ?_))))
    refine ac_cond rfl (fun h1 => ?_) (fun h1 => ?_)
    · exfalso; have h9 := h1; rw [hfb] at h9; cases h9
    · skip
      refine ac_seq (ac_region ?_)
      refine al_p (q_move rfl) (al_call Tryd.call18 (.cons rfl (.cons rfl (.cons rfl .nil))) rfl rfl (fun w3 hs3 => ?_))
      refine (rwithin4b_any t 0 1000000000 _).mono ?_
      rintro e u3 ⟨rfl, rfl⟩
      refine ⟨_, rfl, (Below.refl _ _), ?_⟩
      clear hs3
      refine al_p (q_not rfl) (al_p (q_assign rfl) (al_end (aq_then ?_)))
      refine ac_cond rfl (fun h2 => ?_) (fun h2 => ?_)
      · skip
        refine ac_seq (ac_region ?_)
        refine al_p (q_assign rfl) (al_p (q_assign rfl) (al_end (aq_then ?_)))
        refine ac_ret (aq_inR (aq_thenR (ret2 Tryd.results7 rfl rfl (fun w9 hs => ?_))))
        exact OutT.nil hs.below
      · exfalso; have h9 := h2; rw [ht] at h9; cases h9
end
end Go.Proofs.YtapldonpflgnfaaDoor
