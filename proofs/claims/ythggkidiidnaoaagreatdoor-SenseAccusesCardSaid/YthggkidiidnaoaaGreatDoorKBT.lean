import Derived.Test.YthggkidiidnaoaaGreatDoorKBK
import Derived.Test.YthggkidiidnaoaaGreatDoorKBP
import Derived.Test.YthggkidiidnaoaaGreatDoorKBQ
import Derived.Test.YthggkidiidnaoaaGreatDoorKBR
import Derived.Test.YthggkidiidnaoaaGreatDoorKBS
import Derived.Test.YthggkidiidnaoaaGreatDoorRows
import Derived.KernelRfl
import Derived.Laws.StructEq
namespace Go.Proofs.YthggkidiidnaoaaGreatDoor
set_option linter.unusedVariables false
set_option linter.unusedSimpArgs false
section
open Go.RowKit
theorem cak_bl_x47_0_1 (a0 a1 : Value) (ha0 : a0.oneCell' = true) (ha1 : a1.oneCell' = true) : ∀ w, (Instr.build 47 #[(0, a0), (1, a1)]).run Tryz.prog w = .ok (.agg #[a0, a1]) w := by
 have ea0 : a0.cells = #[a0] := cells_one ha0
 have ea1 : a1.cells = #[a1] := cells_one ha1
 intro w; simp [Instr.build, Instr.fill, cells_agg, Tryz.runUnderlying47, Tryz.zeroValue47, Tryz.sizeOf3, ea0, ea1]
theorem cak_bs_2int_1_0_ (c0_0 c0_1 : Value) : ∀ w, (Instr.buildSlice 44 1 #[(0, .agg #[c0_0, c0_1])]).run Tryz.prog w = .ok (.slice (some ⟨w.heap.size, 0, none⟩) 1 1) (w.alloc (.cells [c0_0, c0_1].toArray 47)) := by
 intro w; (simp [Instr.buildSlice, Instr.fill, cells_agg, newRow, Tryz.runUnderlying44, Tryz.zeroValue47, Tryz.sizeOf47] <;> (rw [(by kernel_rfl : Array.range 2 = #[0, 1])]; simp [Value.cells]))
set_option maxRecDepth 100000 in
theorem rexcl4_any (R : MachR) (M : MachD) (Q : CurR) (C : CurD) (F : Option Addr) (nf cf : Nat) (zs : List SpanD) (w : World) (hM : IsM w R M) (hC : IsC w Q C) (hF : IsT 2 SpanD.cells w F nf zs) (hn : nf ≤ 1000000000000000) : Calls Tryz.prog 12 #[(.agg (machCells R M)), Q.v, (.slice F nf cf)] w (OutT 2 pairN w (candE M C zs) (excZ M C zs)) := by
 refine calls_ax (vs := [(.agg (machCells R M)), Q.v, (.slice F nf cf)]) Tryz.func12 rfl rfl ?_
 refine ac_seq (ac_region ?_)
 refine al_new (fun b => .pointer (some ⟨b, 0, none⟩)) (r_box rfl rfl) rfl rfl rfl ?_
 intro b1
 refine al_new (fun b => .pointer (some ⟨b, 0, none⟩)) (r_box rfl rfl) rfl rfl rfl ?_
 intro b2
 refine al_p (q_assign rfl) (al_p (q_assign rfl) (al_end (aq_then ?_)))
 refine ac_seq (ac_seq (ac_region ?_))
 refine al_p (q_loadAll (i := 1) rfl rfl Tryz.isAgg29 Tryz.sizeOf29 rfl) (al_p (q_loadAll (i := 0) rfl rfl Tryz.isAgg32 Tryz.sizeOf32 rfl) (al_p (q_move rfl) (al_call Tryz.call24 (.cons rfl (.cons rfl (.cons rfl .nil))) rfl rfl (fun w1 hs1 => ?_))))
 refine (rready4_any R M Q C F nf cf zs _ (hM.below hs1.below) (hC.below hs1.below) (hF.below hs1.below) hn).mono ?_
 rintro e u1 ⟨rfl, hb_1⟩
 refine ⟨_, rfl, hb_1, ?_⟩
 clear hs1
 refine al_p (q_not rfl) (al_end (aq_then ?_))
 refine ac_cond rfl (fun h1 => ?_) (fun h1 => ?_)
 ·have hE : explB M C zs = false := by simpa using h1
  refine ac_seq (ac_region ?_)
  refine al_p (q_assign rfl) (al_p (q_assign rfl) (al_end (aq_then ?_)))
  refine ac_ret (aq_thenR (ret2 Tryz.results12 rfl rfl (fun w9 hs => ?_)))
  unfold candE excZ; rw [if_neg (by rw [hE]; decide), if_neg (by rw [hE]; decide)]; exact OutT.nil hs.below
 ·have he : explB M C zs = true := by simpa using h1
  have hexp := explB_iff.1 he
  obtain ⟨hv, hzl, hzs⟩ := hexp
  have hvc := fit2_iff.2 hv
  have hs0 := sound_of hv.check
  have hg := cells_fine hs0.grid
  have hsn := hs0.sensors.1
  have hld := hM.sensors.1
  have hnz := hF.1
  have hcp := hv.plasma.1
  have qc := hC.plasma.1
  have hkc := hC.kc
  have hcn : cellsN M = M.grid.nr * M.grid.nz := by simp [cellsN, hv.check]
  refine ac_skip (aq_then (ac_seq (ac_region ?_)))
  refine al_p (q_loadAll (i := 1) rfl rfl Tryz.isAgg29 Tryz.sizeOf29 rfl) (al_p (q_loadAll (i := 0) rfl rfl Tryz.isAgg32 Tryz.sizeOf32 rfl) (al_call Tryz.call25 (.cons rfl (.cons rfl .nil)) rfl rfl (fun w2 hs2 => ?_)))
  refine (rtable_any R M Q C _ (hM.below hs2.below) (hC.below hs2.below) hv).mono ?_
  rintro e u2 ⟨A_t, c_t, B_t, d_t, rw_t, rfl, N_t, hb_2⟩
  refine ⟨_, rfl, hb_2, ?_⟩
  clear hs2
  refine al_new (fun b => .pointer (some ⟨b, 0, none⟩)) (r_alloc Tryz.zeroValue89 rfl) rfl rfl rfl ?_
  intro b3
  refine al_storeAll (i := 0) rfl rfl rfl rfl Tryz.sizeOf89 rfl rfl .k0 rfl (al_end (aq_then ?_))
  refine ac_seq (ac_region ?_)
  refine al_p (q_assign rfl) (al_end (aq_then ?_))
  refine ac_seq (ac_seq (ac_region ?_))
  refine al_p (q_assign rfl) (al_end (aq_then ?_))
  refine ac_block ?_
  refine ac_loop (β := Nat × Gr × List Value) (fun x => x.1 ≤ nf ∧ gok x.2.1 (excU (fun a b => togU M C zs a b C.plasma.length) M.sensors.length x.1).length 2 x.2.2 ∧ x.2.2 = (excU (fun a b => togU M C zs a b C.plasma.length) M.sensors.length x.1).flatMap pairN) (fun x => [(2, (.slice F nf cf)), (3, (.pointer (some ⟨b1, 0, none⟩))), (6, (.slice none 0 0)), (7, (.int .i64 0)), (8, (.pointer (some ⟨b3, 0, none⟩))), (9, (.slice (gA x.2.1) (excU (fun a b => togU M C zs a b C.plasma.length) M.sensors.length x.1).length (gC x.2.1))), (10, (.int .i64 (x.1 : Int)))]) (fun _ => _) (fun x => (b3, _) :: (b2, _) :: (b1, _) :: (gt x.2.1 x.2.2 ++ ([]))) (fun x => nf - x.1) (0, none, []) ⟨by simp, gok.none 2, rfl⟩ ⟨rfl, rfl, rfl, rfl, rfl, rfl, rfl, trivial⟩ (fun w9 hs => (by rw [show gt none [] = [] from rfl, List.nil_append]; exact hs)) (fun x hF1 => ?_)
  obtain ⟨hxn, hgk, hcs⟩ := hF1
  have htl := excU_len9 (tog := (fun a b => togU M C zs a b C.plasma.length)) (n := M.sensors.length) (a := x.1) (by omega) (by omega)
  refine ac_seq (ac_seq (ac_region ?_))
  refine al_p (q_move rfl) (al_p (q_move rfl) (al_p (q_lenS rfl Tryz.runUnderlying33) (al_p (q_lss rfl rfl) (al_end (aq_then ?_)))))
  refine ac_cond rfl (fun h2 => ?_) (fun h2 => ?_)
  ·have hxl : x.1 < nf := by have := of_decide_eq_true h2; omega
   refine ac_skip (aq_then (ac_seq (ac_block (ac_seq (ac_region ?_)))))
   refine al_p (q_move rfl) ?_
   refine al_p (q_add rfl rfl (by omega)) (al_p (q_assign rfl) (al_end (aq_then ?_)))
   refine ac_block ?_
   refine ac_loop (β := Nat × Gr × List Value) (fun y => x.1 < y.1 ∧ y.1 ≤ nf ∧ gok y.2.1 (excU (fun a b => togU M C zs a b C.plasma.length) M.sensors.length x.1 ++ excR (fun a b => togU M C zs a b C.plasma.length) x.1 y.1).length 2 y.2.2 ∧ y.2.2 = (excU (fun a b => togU M C zs a b C.plasma.length) M.sensors.length x.1 ++ excR (fun a b => togU M C zs a b C.plasma.length) x.1 y.1).flatMap pairN) (fun y => [(2, (.slice F nf cf)), (3, (.pointer (some ⟨b1, 0, none⟩))), (6, (.slice none 0 0)), (7, (.int .i64 0)), (8, (.pointer (some ⟨b3, 0, none⟩))), (9, (.slice (gA y.2.1) (excU (fun a b => togU M C zs a b C.plasma.length) M.sensors.length x.1 ++ excR (fun a b => togU M C zs a b C.plasma.length) x.1 y.1).length (gC y.2.1))), (10, (.int .i64 (x.1 : Int))), (11, (.int .i64 (y.1 : Int))), (26, (.int .i64 (x.1 : Int))), (27, (.slice F nf cf)), (28, (.int .i64 (nf : Int))), (32, (.int .i64 (x.1 : Int)))]) (fun _ => _) (fun y => (b3, _) :: (b2, _) :: (b1, _) :: (gt y.2.1 y.2.2 ++ ([]))) (fun y => nf - y.1) (x.1 + 1, x.2.1, x.2.2) ⟨by simp only; omega, by simp only; omega, by simp only; rw [excR_start, List.append_nil]; exact hgk, by simp only; rw [excR_start, List.append_nil]; exact hcs⟩ ⟨rfl, rfl, rfl, rfl, rfl, (by simp only; rw [excR_start, List.append_nil]; rfl), rfl, rfl, rfl, rfl, rfl, rfl, trivial⟩ (fun w9 hs => hs) (fun y hF2 => ?_)
   obtain ⟨hxy, hyn, hgk2, hcs2⟩ := hF2
   have htl2 := exc_len (tog := (fun a b => togU M C zs a b C.plasma.length)) (n := M.sensors.length) (a := x.1) (b := y.1) (by omega) (by omega) (by omega)
   refine ac_seq (ac_seq (ac_region ?_))
   refine al_p (q_move rfl) (al_p (q_move rfl) (al_p (q_lenS rfl Tryz.runUnderlying33) (al_p (q_lss rfl rfl) (al_end (aq_then ?_)))))
   refine ac_cond rfl (fun h3 => ?_) (fun h3 => ?_)
   ·have hyl : y.1 < nf := by have := of_decide_eq_true h3; omega
    refine ac_skip (aq_then (ac_seq (ac_block (ac_seq (ac_region ?_)))))
    refine al_p (q_assign rfl) (al_end (aq_then ?_))
    refine ac_seq (ac_seq (ac_region ?_))
    refine al_p (q_assign rfl) (al_end (aq_then ?_))
    refine ac_block (ac_loop (β := Nat × Bool) (fun v => v.1 ≤ (M.grid.nr * M.grid.nz).toNat ∧ v.2 = togU M C zs x.1 y.1 v.1) (fun v => [(2, (.slice F nf cf)), (3, (.pointer (some ⟨b1, 0, none⟩))), (6, (.slice none 0 0)), (7, (.int .i64 0)), (8, (.pointer (some ⟨b3, 0, none⟩))), (9, (.slice (gA y.2.1) (excU (fun a b => togU M C zs a b C.plasma.length) M.sensors.length x.1 ++ excR (fun a b => togU M C zs a b C.plasma.length) x.1 y.1).length (gC y.2.1))), (10, (.int .i64 (x.1 : Int))), (11, (.int .i64 (y.1 : Int))), (12, (.bool v.2)), (13, (.int .i64 (v.1 : Int))), (26, (.int .i64 (x.1 : Int))), (27, (.slice F nf cf)), (28, (.int .i64 (nf : Int))), (32, (.int .i64 (x.1 : Int))), (34, (.int .i64 (y.1 : Int))), (35, (.slice F nf cf)), (36, (.int .i64 (nf : Int)))]) (fun _ => _) (fun v => (b3, _) :: (b2, _) :: (b1, _) :: (gt y.2.1 y.2.2 ++ ([]))) (fun v => (M.grid.nr * M.grid.nz).toNat - v.1) (0, false) ⟨by simp, rfl⟩ ⟨rfl, rfl, rfl, rfl, rfl, rfl, rfl, rfl, rfl, rfl, rfl, rfl, rfl, rfl, rfl, rfl, rfl, trivial⟩ (fun w9 hs => hs) (fun v hF3 => ?_))
    obtain ⟨hvn, hv2⟩ := hF3
    refine ac_seq (ac_seq (ac_region ?_))
    refine al_p (q_move rfl) (al_p (q_loadAll (i := 2) rfl rfl Tryz.isAgg29 Tryz.sizeOf29 rfl) (al_call Tryz.call26 (.cons rfl .nil) rfl rfl (fun w3 hs3 => ?_)))
    refine (rcellsN_any R M _ (hM.below hs3.below)).mono ?_
    rintro e u3 ⟨rfl, hb_3⟩
    refine ⟨_, rfl, hb_3, ?_⟩
    clear hs3
    refine al_p (q_lss rfl rfl) (al_end (aq_then ?_))
    refine ac_cond rfl (fun h4 => ?_) (fun h4 => ?_)
    ·have hvl : v.1 < (M.grid.nr * M.grid.nz).toNat := by have := of_decide_eq_true h4; omega
     obtain ⟨b_ap, o_ap, hA_ap, hlt_ap, hget_ap⟩ := N_t.bg.isT.2 (by omega)
     have hx_ap : (bgL M C)[x.1]? = some (backL M C (x.1 : Int)).1 := by rw [bgL_get (by omega)]
     obtain ⟨b_bp, o_bp, hA_bp, hlt_bp, hget_bp⟩ := N_t.out.isT.2 (by omega)
     obtain ⟨rrp, hrrp⟩ : ∃ rrp, rw_t[x.1]? = some rrp := ⟨_, List.getElem?_eq_getElem (by rw [N_t.out.isT.1]; omega)⟩
     have N_cp := N_t.row x.1 rrp hrrp
     obtain ⟨b_cp, o_cp, hA_cp, hlt_cp, hget_cp⟩ := N_cp.isT.2 (by omega)
     have hx_cp : (respRow M (M.grid.nr * M.grid.nz).toNat x.1)[v.1]? = some (respL M (x.1 : Int) (v.1 : Int)).1 := by rw [respRow_get (by omega)]
     obtain ⟨b11, o11, hA1, hlt1, hget1⟩ := hF.2 (by omega)
     have hx1 := getD_get (l := zs) (d := ⟨0, 0⟩) (k := x.1) (by omega)
     have hclp : (clL M (bgL M C) zs (v.1 : Int)).getD x.1 ⟨0, 0⟩ = ⟨(allowL (zs.getD x.1 ⟨0, 0⟩).lo (zs.getD x.1 ⟨0, 0⟩).hi (backL M C (x.1 : Int)).1 (respL M (x.1 : Int) (v.1 : Int)).1).1, (allowL (zs.getD x.1 ⟨0, 0⟩).lo (zs.getD x.1 ⟨0, 0⟩).hi (backL M C (x.1 : Int)).1 (respL M (x.1 : Int) (v.1 : Int)).1).2⟩ := by rw [List.getD_eq_getElem?_getD, clL_get (by omega), Option.getD_some, clF_eq (by omega)]
     obtain ⟨b_aq, o_aq, hA_aq, hlt_aq, hget_aq⟩ := N_t.bg.isT.2 (by omega)
     have hx_aq : (bgL M C)[y.1]? = some (backL M C (y.1 : Int)).1 := by rw [bgL_get (by omega)]
     obtain ⟨b_bq, o_bq, hA_bq, hlt_bq, hget_bq⟩ := N_t.out.isT.2 (by omega)
     obtain ⟨rrq, hrrq⟩ : ∃ rrq, rw_t[y.1]? = some rrq := ⟨_, List.getElem?_eq_getElem (by rw [N_t.out.isT.1]; omega)⟩
     have N_cq := N_t.row y.1 rrq hrrq
     obtain ⟨b_cq, o_cq, hA_cq, hlt_cq, hget_cq⟩ := N_cq.isT.2 (by omega)
     have hx_cq : (respRow M (M.grid.nr * M.grid.nz).toNat y.1)[v.1]? = some (respL M (y.1 : Int) (v.1 : Int)).1 := by rw [respRow_get (by omega)]
     obtain ⟨b21, o21, hA2, hlt2, hget2⟩ := hF.2 (by omega)
     have hx2 := getD_get (l := zs) (d := ⟨0, 0⟩) (k := y.1) (by omega)
     have hclq : (clL M (bgL M C) zs (v.1 : Int)).getD y.1 ⟨0, 0⟩ = ⟨(allowL (zs.getD y.1 ⟨0, 0⟩).lo (zs.getD y.1 ⟨0, 0⟩).hi (backL M C (y.1 : Int)).1 (respL M (y.1 : Int) (v.1 : Int)).1).1, (allowL (zs.getD y.1 ⟨0, 0⟩).lo (zs.getD y.1 ⟨0, 0⟩).hi (backL M C (y.1 : Int)).1 (respL M (y.1 : Int) (v.1 : Int)).1).2⟩ := by rw [List.getD_eq_getElem?_getD, clL_get (by omega), Option.getD_some, clF_eq (by omega)]
     refine ac_skip (aq_then (ac_seq (ac_block ?_)))
     refine ac_cutU (β := Int × Int × Nat) (fun pp => okAl (zs.getD x.1 ⟨0, 0⟩).lo (zs.getD x.1 ⟨0, 0⟩).hi (backL M C (x.1 : Int)).1 (respL M (x.1 : Int) (v.1 : Int)).1 = true → pp.1 = (allowL (zs.getD x.1 ⟨0, 0⟩).lo (zs.getD x.1 ⟨0, 0⟩).hi (backL M C (x.1 : Int)).1 (respL M (x.1 : Int) (v.1 : Int)).1).1 ∧ pp.2.1 = (allowL (zs.getD x.1 ⟨0, 0⟩).lo (zs.getD x.1 ⟨0, 0⟩).hi (backL M C (x.1 : Int)).1 (respL M (x.1 : Int) (v.1 : Int)).1).2) (fun pp => [(2, (.slice F nf cf)), (3, (.pointer (some ⟨b1, 0, none⟩))), (6, (.slice none 0 0)), (7, (.int .i64 0)), (8, (.pointer (some ⟨b3, 0, none⟩))), (9, (.slice (gA y.2.1) (excU (fun a b => togU M C zs a b C.plasma.length) M.sensors.length x.1 ++ excR (fun a b => togU M C zs a b C.plasma.length) x.1 y.1).length (gC y.2.1))), (10, (.int .i64 (x.1 : Int))), (11, (.int .i64 (y.1 : Int))), (12, (.bool v.2)), (13, (.int .i64 (v.1 : Int))), (14, (.pointer (some ⟨pp.2.2, 0, none⟩))), (15, (.bool (okAl (zs.getD x.1 ⟨0, 0⟩).lo (zs.getD x.1 ⟨0, 0⟩).hi (backL M C (x.1 : Int)).1 (respL M (x.1 : Int) (v.1 : Int)).1))), (26, (.int .i64 (x.1 : Int))), (27, (.slice F nf cf)), (28, (.int .i64 (nf : Int))), (32, (.int .i64 (x.1 : Int))), (34, (.int .i64 (y.1 : Int))), (35, (.slice F nf cf)), (36, (.int .i64 (nf : Int))), (40, (.int .i64 (v.1 : Int))), (41, (.agg (machCells R M))), (42, (.int .i64 (cellsN M)))]) (fun pp L9 => (pp.2.2, .cells [.int .i64 pp.1, .int .i64 pp.2.1]) :: L9) (fun X9 hX9 => ?_) (fun pp hF9 => ?_)
     ·refine ac_draw 23 (by kernel_rfl) (by kernel_rfl) ?_
      refine ah_t 0 (fun w9 hs => hs) rfl rfl (by kernel_rfl) (q_fieldAddr 0 rfl Tryz.runUnderlying89 rfl Tryz.sizeOf30 (by decide) rfl) (ah_t 1 (fun w9 hs => hs) rfl rfl (by kernel_rfl) (q_load (i := 0) rfl rfl rfl Tryz.isAgg30) (ah_t 2 (fun w9 hs => hs) rfl rfl (by kernel_rfl) (q_move rfl) ?_))
      refine ah_t 3 (fun w9 hs => hs) rfl rfl (by kernel_rfl) (q_indexAddrA (i := x.1) (o_ap + x.1 * 1 + 0) hA_ap rfl rfl rfl (by omega) Tryz.runUnderlying30 Tryz.sizeOf3 rfl) (ah_t 4 (fun w9 hs => hs) rfl rfl (by kernel_rfl) (q_loadX rfl Tryz.isAgg3 (fun w9 hs => (hs.cellOf (.tail _ (.head _)) (N_t.bg.new _ _ hA_ap) hlt_ap (hget_ap x.1 _ hx_ap 0 _ rfl)))) ?_)
      refine ah_t 5 (fun w9 hs => hs) rfl rfl (by kernel_rfl) (q_fieldAddr 1 rfl Tryz.runUnderlying89 rfl Tryz.sizeOf87 (by decide) rfl) (ah_t 6 (fun w9 hs => hs) rfl rfl (by kernel_rfl) (q_load (i := 0) rfl rfl rfl Tryz.isAgg87) (ah_t 7 (fun w9 hs => hs) rfl rfl (by kernel_rfl) (q_move rfl) ?_))
      refine ah_t 8 (fun w9 hs => hs) rfl rfl (by kernel_rfl) (q_indexAddrA (i := x.1) (o_bp + x.1 * 1 + 0) hA_bp rfl rfl rfl (by omega) Tryz.runUnderlying87 Tryz.sizeOf30 rfl) (ah_t 9 (fun w9 hs => hs) rfl rfl (by kernel_rfl) (q_loadX rfl Tryz.isAgg30 (fun w9 hs => (hs.cellOf (.tail _ (.head _)) (N_t.out.new _ _ hA_bp) hlt_bp (hget_bp x.1 _ hrrp 0 _ rfl)))) (ah_t 10 (fun w9 hs => hs) rfl rfl (by kernel_rfl) (q_move rfl) ?_))
      refine ah_t 11 (fun w9 hs => hs) rfl rfl (by kernel_rfl) (q_indexAddrA (i := v.1) (o_cp + v.1 * 1 + 0) hA_cp rfl rfl rfl (by omega) Tryz.runUnderlying30 Tryz.sizeOf3 rfl) (ah_t 12 (fun w9 hs => hs) rfl rfl (by kernel_rfl) (q_loadX rfl Tryz.isAgg3 (fun w9 hs => (hs.cellOf (.tail _ (.head _)) (N_cp.new _ _ hA_cp) hlt_cp (hget_cp v.1 _ hx_cp 0 _ rfl)))) (ah_t 13 (fun w9 hs => hs) rfl rfl (by kernel_rfl) (q_move rfl) (ah_t 14 (fun w9 hs => hs) rfl rfl (by kernel_rfl) (q_move rfl) ?_)))
      refine ah_t 15 (fun w9 hs => hs) rfl rfl (by kernel_rfl) (q_indexAddrA (i := x.1) (o11 + x.1 * 2 + 0) hA1 rfl rfl rfl (by omega) Tryz.runUnderlying33 Tryz.sizeOf67 rfl) (ah_t 16 (fun w9 hs => hs) rfl rfl (by kernel_rfl) (q_loadXs (SpanD.cells (zs.getD x.1 ⟨0, 0⟩)) rfl Tryz.isAgg67 Tryz.sizeOf67 (fun w9 hs j9 v9 h9 => by rw [addr_add]; exact (hs.below.cell (p := ⟨_, _, none⟩) hlt1).trans ((hget1 x.1 _ hx1) j9 v9 h9)) rfl) ?_)
      refine ah_two 17 21 rfl rfl  (by kernel_rfl) (fun hok1 hcl1 => ?_) (fun hok1 hcl1 => ?_)
      ·refine al_call Tryz.call27 (.cons rfl (.cons rfl (.cons rfl .nil))) rfl rfl (fun w4 hs4 => ?_)
       refine (rallowed4_any (zs.getD x.1 ⟨0, 0⟩).lo (zs.getD x.1 ⟨0, 0⟩).hi (backL M C (x.1 : Int)).1 (respL M (x.1 : Int) (v.1 : Int)).1 _ (hzs _ (List.mem_of_getElem? hx1)) (backL_bd M C _).1 (backL_bd M C _).2 (respL_bd M _ _).1 (respL_bd M _ _).2).mono ?_
       rintro e u4 ⟨xap, yap, rfl, ok_p, hb_4⟩
       refine ⟨_, rfl, hb_4, ?_⟩
       clear hs4
       refine al_end (ah_back hok1 hcl1 (fun w9 hs => (hs.fewer 1 rfl)) ?_)
       refine ah_t 18 (fun w9 hs => (hs.fewer 1 rfl)) rfl rfl (by kernel_rfl) (q_move rfl) (ah_t 19 (fun w9 hs => (hs.fewer 1 rfl)) rfl rfl (by kernel_rfl) (q_extract rfl rfl) (ah_t 20 (fun w9 hs => (hs.fewer 1 rfl)) rfl rfl (by kernel_rfl) (q_extract rfl rfl) (ah_one 21 rfl (by kernel_rfl) (fun hok2 hcl2 => ?_))))
       refine al_new (fun b => .pointer (some ⟨b, 0, none⟩)) (r_alloc Tryz.zeroValue67 rfl) rfl rfl rfl ?_
       intro b4
       refine al_end (ah_back hok2 hcl2 (fun w9 hs => ((hs.fewer 1 rfl).tail 1 rfl)) ?_)
       refine ah_one 22 rfl (by kernel_rfl) (fun hok3 hcl3 => ?_)
       refine al_storeAll (i := 0) rfl rfl rfl rfl Tryz.sizeOf67 rfl rfl .k0 rfl (al_end (ah_back hok3 hcl3 (fun w9 hs => ((hs.fewer 1 rfl).tail 1 rfl)) ?_))
       refine ah_t 23 (fun w9 hs => ((hs.fewer 1 rfl).tail 1 rfl)) rfl rfl (by kernel_rfl) (q_assign rfl) (ah_done (by kernel_rfl) ?_)
       refine aq_then ?_
       exact aq_sub (hX9 ((xap, yap, b4)) (ok_p)) ⟨rfl, rfl, rfl, rfl, rfl, rfl, rfl, rfl, rfl, rfl, rfl, rfl, rfl, rfl, rfl, rfl, rfl, rfl, rfl, rfl, rfl, rfl, trivial⟩ (fun w9 hs => (hs.fewer 1 rfl))
      ·refine al_new (fun b => .pointer (some ⟨b, 0, none⟩)) (r_alloc Tryz.zeroValue67 rfl) rfl rfl rfl ?_
       intro b5
       refine al_end (ah_back hok1 hcl1 (fun w9 hs => (hs.tail 1 rfl)) ?_)
       refine ah_one 17 rfl (by kernel_rfl) (fun hok4 hcl4 => ?_)
       refine al_call Tryz.call27 (.cons rfl (.cons rfl (.cons rfl .nil))) rfl rfl (fun w5 hs5 => ?_)
       refine (rallowed4_any (zs.getD x.1 ⟨0, 0⟩).lo (zs.getD x.1 ⟨0, 0⟩).hi (backL M C (x.1 : Int)).1 (respL M (x.1 : Int) (v.1 : Int)).1 _ (hzs _ (List.mem_of_getElem? hx1)) (backL_bd M C _).1 (backL_bd M C _).2 (respL_bd M _ _).1 (respL_bd M _ _).2).mono ?_
       rintro e u5 ⟨xap, yap, rfl, ok_p, hb_5⟩
       refine ⟨_, rfl, hb_5, ?_⟩
       clear hs5
       refine al_end (ah_back hok4 hcl4 (fun w9 hs => ((hs.fewer 1 rfl).tail 1 rfl)) ?_)
       refine ah_t 18 (fun w9 hs => ((hs.fewer 1 rfl).tail 1 rfl)) rfl rfl (by kernel_rfl) (q_move rfl) (ah_t 19 (fun w9 hs => ((hs.fewer 1 rfl).tail 1 rfl)) rfl rfl (by kernel_rfl) (q_extract rfl rfl) (ah_t 20 (fun w9 hs => ((hs.fewer 1 rfl).tail 1 rfl)) rfl rfl (by kernel_rfl) (q_extract rfl rfl) (ah_one 22 rfl (by kernel_rfl) (fun hok5 hcl5 => ?_))))
       refine al_storeAll (i := 0) rfl rfl rfl rfl Tryz.sizeOf67 rfl rfl .k0 rfl (al_end (ah_back hok5 hcl5 (fun w9 hs => ((hs.fewer 1 rfl).tail 1 rfl)) ?_))
       refine ah_t 23 (fun w9 hs => ((hs.fewer 1 rfl).tail 1 rfl)) rfl rfl (by kernel_rfl) (q_assign rfl) (ah_done (by kernel_rfl) ?_)
       refine aq_then ?_
       exact aq_sub (hX9 ((xap, yap, b5)) (ok_p)) ⟨rfl, rfl, rfl, rfl, rfl, rfl, rfl, rfl, rfl, rfl, rfl, rfl, rfl, rfl, rfl, rfl, rfl, rfl, rfl, rfl, rfl, rfl, trivial⟩ (fun w9 hs => (hs.fewer 1 rfl))
     ·have ok_p := hF9
      refine ac_cutU (β := Int × Int × Nat) (fun pq => okAl (zs.getD y.1 ⟨0, 0⟩).lo (zs.getD y.1 ⟨0, 0⟩).hi (backL M C (y.1 : Int)).1 (respL M (y.1 : Int) (v.1 : Int)).1 = true → pq.1 = (allowL (zs.getD y.1 ⟨0, 0⟩).lo (zs.getD y.1 ⟨0, 0⟩).hi (backL M C (y.1 : Int)).1 (respL M (y.1 : Int) (v.1 : Int)).1).1 ∧ pq.2.1 = (allowL (zs.getD y.1 ⟨0, 0⟩).lo (zs.getD y.1 ⟨0, 0⟩).hi (backL M C (y.1 : Int)).1 (respL M (y.1 : Int) (v.1 : Int)).1).2) (fun pq => [(2, (.slice F nf cf)), (3, (.pointer (some ⟨b1, 0, none⟩))), (6, (.slice none 0 0)), (7, (.int .i64 0)), (8, (.pointer (some ⟨b3, 0, none⟩))), (9, (.slice (gA y.2.1) (excU (fun a b => togU M C zs a b C.plasma.length) M.sensors.length x.1 ++ excR (fun a b => togU M C zs a b C.plasma.length) x.1 y.1).length (gC y.2.1))), (10, (.int .i64 (x.1 : Int))), (11, (.int .i64 (y.1 : Int))), (12, (.bool v.2)), (13, (.int .i64 (v.1 : Int))), (14, (.pointer (some ⟨pp.2.2, 0, none⟩))), (15, (.bool (okAl (zs.getD x.1 ⟨0, 0⟩).lo (zs.getD x.1 ⟨0, 0⟩).hi (backL M C (x.1 : Int)).1 (respL M (x.1 : Int) (v.1 : Int)).1))), (16, (.pointer (some ⟨pq.2.2, 0, none⟩))), (17, (.bool (okAl (zs.getD y.1 ⟨0, 0⟩).lo (zs.getD y.1 ⟨0, 0⟩).hi (backL M C (y.1 : Int)).1 (respL M (y.1 : Int) (v.1 : Int)).1))), (26, (.int .i64 (x.1 : Int))), (27, (.slice F nf cf)), (28, (.int .i64 (nf : Int))), (32, (.int .i64 (x.1 : Int))), (34, (.int .i64 (y.1 : Int))), (35, (.slice F nf cf)), (36, (.int .i64 (nf : Int))), (40, (.int .i64 (v.1 : Int))), (41, (.agg (machCells R M))), (42, (.int .i64 (cellsN M)))]) (fun pq L9 => (pq.2.2, .cells [.int .i64 pq.1, .int .i64 pq.2.1]) :: L9) (fun X9 hX9 => ?_) (fun pq hF9 => ?_)
      ·refine ac_draw 23 (by kernel_rfl) (by kernel_rfl) ?_
       refine ah_t 0 (fun w9 hs => hs) rfl rfl (by kernel_rfl) (q_fieldAddr 0 rfl Tryz.runUnderlying89 rfl Tryz.sizeOf30 (by decide) rfl) (ah_t 1 (fun w9 hs => hs) rfl rfl (by kernel_rfl) (q_load (i := 1) rfl rfl rfl Tryz.isAgg30) (ah_t 2 (fun w9 hs => hs) rfl rfl (by kernel_rfl) (q_move rfl) ?_))
       refine ah_t 3 (fun w9 hs => hs) rfl rfl (by kernel_rfl) (q_indexAddrA (i := y.1) (o_aq + y.1 * 1 + 0) hA_aq rfl rfl rfl (by omega) Tryz.runUnderlying30 Tryz.sizeOf3 rfl) (ah_t 4 (fun w9 hs => hs) rfl rfl (by kernel_rfl) (q_loadX rfl Tryz.isAgg3 (fun w9 hs => (hs.cellOf (.tail _ (.head _)) (N_t.bg.new _ _ hA_aq) hlt_aq (hget_aq y.1 _ hx_aq 0 _ rfl)))) ?_)
       refine ah_t 5 (fun w9 hs => hs) rfl rfl (by kernel_rfl) (q_fieldAddr 1 rfl Tryz.runUnderlying89 rfl Tryz.sizeOf87 (by decide) rfl) (ah_t 6 (fun w9 hs => hs) rfl rfl (by kernel_rfl) (q_load (i := 1) rfl rfl rfl Tryz.isAgg87) (ah_t 7 (fun w9 hs => hs) rfl rfl (by kernel_rfl) (q_move rfl) ?_))
       refine ah_t 8 (fun w9 hs => hs) rfl rfl (by kernel_rfl) (q_indexAddrA (i := y.1) (o_bq + y.1 * 1 + 0) hA_bq rfl rfl rfl (by omega) Tryz.runUnderlying87 Tryz.sizeOf30 rfl) (ah_t 9 (fun w9 hs => hs) rfl rfl (by kernel_rfl) (q_loadX rfl Tryz.isAgg30 (fun w9 hs => (hs.cellOf (.tail _ (.head _)) (N_t.out.new _ _ hA_bq) hlt_bq (hget_bq y.1 _ hrrq 0 _ rfl)))) (ah_t 10 (fun w9 hs => hs) rfl rfl (by kernel_rfl) (q_move rfl) ?_))
       refine ah_t 11 (fun w9 hs => hs) rfl rfl (by kernel_rfl) (q_indexAddrA (i := v.1) (o_cq + v.1 * 1 + 0) hA_cq rfl rfl rfl (by omega) Tryz.runUnderlying30 Tryz.sizeOf3 rfl) (ah_t 12 (fun w9 hs => hs) rfl rfl (by kernel_rfl) (q_loadX rfl Tryz.isAgg3 (fun w9 hs => (hs.cellOf (.tail _ (.head _)) (N_cq.new _ _ hA_cq) hlt_cq (hget_cq v.1 _ hx_cq 0 _ rfl)))) (ah_t 13 (fun w9 hs => hs) rfl rfl (by kernel_rfl) (q_move rfl) (ah_t 14 (fun w9 hs => hs) rfl rfl (by kernel_rfl) (q_move rfl) ?_)))
       refine ah_t 15 (fun w9 hs => hs) rfl rfl (by kernel_rfl) (q_indexAddrA (i := y.1) (o21 + y.1 * 2 + 0) hA2 rfl rfl rfl (by omega) Tryz.runUnderlying33 Tryz.sizeOf67 rfl) (ah_t 16 (fun w9 hs => hs) rfl rfl (by kernel_rfl) (q_loadXs (SpanD.cells (zs.getD y.1 ⟨0, 0⟩)) rfl Tryz.isAgg67 Tryz.sizeOf67 (fun w9 hs j9 v9 h9 => by rw [addr_add]; exact (hs.below.cell (p := ⟨_, _, none⟩) hlt2).trans ((hget2 y.1 _ hx2) j9 v9 h9)) rfl) ?_)
       refine ah_two 17 21 rfl rfl  (by kernel_rfl) (fun hok6 hcl6 => ?_) (fun hok6 hcl6 => ?_)
       ·refine al_call Tryz.call27 (.cons rfl (.cons rfl (.cons rfl .nil))) rfl rfl (fun w6 hs6 => ?_)
        refine (rallowed4_any (zs.getD y.1 ⟨0, 0⟩).lo (zs.getD y.1 ⟨0, 0⟩).hi (backL M C (y.1 : Int)).1 (respL M (y.1 : Int) (v.1 : Int)).1 _ (hzs _ (List.mem_of_getElem? hx2)) (backL_bd M C _).1 (backL_bd M C _).2 (respL_bd M _ _).1 (respL_bd M _ _).2).mono ?_
        rintro e u6 ⟨xaq, yaq, rfl, ok_q, hb_6⟩
        refine ⟨_, rfl, hb_6, ?_⟩
        clear hs6
        refine al_end (ah_back hok6 hcl6 (fun w9 hs => (hs.fewer 1 rfl)) ?_)
        refine ah_t 18 (fun w9 hs => (hs.fewer 1 rfl)) rfl rfl (by kernel_rfl) (q_move rfl) (ah_t 19 (fun w9 hs => (hs.fewer 1 rfl)) rfl rfl (by kernel_rfl) (q_extract rfl rfl) (ah_t 20 (fun w9 hs => (hs.fewer 1 rfl)) rfl rfl (by kernel_rfl) (q_extract rfl rfl) (ah_one 21 rfl (by kernel_rfl) (fun hok7 hcl7 => ?_))))
        refine al_new (fun b => .pointer (some ⟨b, 0, none⟩)) (r_alloc Tryz.zeroValue67 rfl) rfl rfl rfl ?_
        intro b6
        refine al_end (ah_back hok7 hcl7 (fun w9 hs => ((hs.fewer 1 rfl).tail 1 rfl)) ?_)
        refine ah_one 22 rfl (by kernel_rfl) (fun hok8 hcl8 => ?_)
        refine al_storeAll (i := 0) rfl rfl rfl rfl Tryz.sizeOf67 rfl rfl .k0 rfl (al_end (ah_back hok8 hcl8 (fun w9 hs => ((hs.fewer 1 rfl).tail 1 rfl)) ?_))
        refine ah_t 23 (fun w9 hs => ((hs.fewer 1 rfl).tail 1 rfl)) rfl rfl (by kernel_rfl) (q_assign rfl) (ah_done (by kernel_rfl) ?_)
        refine aq_then ?_
        exact aq_sub (hX9 ((xaq, yaq, b6)) (ok_q)) ⟨rfl, rfl, rfl, rfl, rfl, rfl, rfl, rfl, rfl, rfl, rfl, rfl, rfl, rfl, rfl, rfl, rfl, rfl, rfl, rfl, rfl, rfl, rfl, rfl, trivial⟩ (fun w9 hs => (hs.fewer 1 rfl))
       ·refine al_new (fun b => .pointer (some ⟨b, 0, none⟩)) (r_alloc Tryz.zeroValue67 rfl) rfl rfl rfl ?_
        intro b7
        refine al_end (ah_back hok6 hcl6 (fun w9 hs => (hs.tail 1 rfl)) ?_)
        refine ah_one 17 rfl (by kernel_rfl) (fun hok9 hcl9 => ?_)
        refine al_call Tryz.call27 (.cons rfl (.cons rfl (.cons rfl .nil))) rfl rfl (fun w7 hs7 => ?_)
        refine (rallowed4_any (zs.getD y.1 ⟨0, 0⟩).lo (zs.getD y.1 ⟨0, 0⟩).hi (backL M C (y.1 : Int)).1 (respL M (y.1 : Int) (v.1 : Int)).1 _ (hzs _ (List.mem_of_getElem? hx2)) (backL_bd M C _).1 (backL_bd M C _).2 (respL_bd M _ _).1 (respL_bd M _ _).2).mono ?_
        rintro e u7 ⟨xaq, yaq, rfl, ok_q, hb_7⟩
        refine ⟨_, rfl, hb_7, ?_⟩
        clear hs7
        refine al_end (ah_back hok9 hcl9 (fun w9 hs => ((hs.fewer 1 rfl).tail 1 rfl)) ?_)
        refine ah_t 18 (fun w9 hs => ((hs.fewer 1 rfl).tail 1 rfl)) rfl rfl (by kernel_rfl) (q_move rfl) (ah_t 19 (fun w9 hs => ((hs.fewer 1 rfl).tail 1 rfl)) rfl rfl (by kernel_rfl) (q_extract rfl rfl) (ah_t 20 (fun w9 hs => ((hs.fewer 1 rfl).tail 1 rfl)) rfl rfl (by kernel_rfl) (q_extract rfl rfl) (ah_one 22 rfl (by kernel_rfl) (fun hok10 hcl10 => ?_))))
        refine al_storeAll (i := 0) rfl rfl rfl rfl Tryz.sizeOf67 rfl rfl .k0 rfl (al_end (ah_back hok10 hcl10 (fun w9 hs => ((hs.fewer 1 rfl).tail 1 rfl)) ?_))
        refine ah_t 23 (fun w9 hs => ((hs.fewer 1 rfl).tail 1 rfl)) rfl rfl (by kernel_rfl) (q_assign rfl) (ah_done (by kernel_rfl) ?_)
        refine aq_then ?_
        exact aq_sub (hX9 ((xaq, yaq, b7)) (ok_q)) ⟨rfl, rfl, rfl, rfl, rfl, rfl, rfl, rfl, rfl, rfl, rfl, rfl, rfl, rfl, rfl, rfl, rfl, rfl, rfl, rfl, rfl, rfl, rfl, rfl, trivial⟩ (fun w9 hs => (hs.fewer 1 rfl))
      ·have ok_q := hF9
       refine ac_seq (ac_region ?_)
       refine al_p (q_move rfl) (al_p (q_move rfl) ?_)
       refine aq_split 89 rfl (fun hb1 => ?_) (fun hb1 => ?_)
       ·have q89 := hb1
        obtain ⟨hxp, hyp⟩ := ok_p q89
        refine al_p (q_move rfl) (al_p (q_pickT rfl rfl) (al_p (q_move rfl) ?_))
        refine aq_split 92 rfl (fun hb2 => ?_) (fun hb2 => ?_)
        ·have q92 := hb2
         obtain ⟨hxq, hyq⟩ := ok_q q92
         refine al_p (q_fieldAddr 0 rfl Tryz.runUnderlying67 rfl Tryz.sizeOf3 (by decide) rfl) (al_p (q_load (i := 1) rfl rfl rfl Tryz.isAgg3) ?_)
         refine al_p (q_fieldAddr 1 rfl Tryz.runUnderlying67 rfl Tryz.sizeOf3 (by decide) rfl) (al_p (q_load (i := 0) rfl rfl rfl Tryz.isAgg3) (al_p (q_leq rfl rfl) (al_p (q_pickT rfl rfl) (al_p (q_move rfl) ?_))))
         refine aq_split 99 rfl (fun hb3 => ?_) (fun hb3 => ?_)
         ·have q99 := of_decide_eq_true hb3
          refine al_p (q_fieldAddr 0 rfl Tryz.runUnderlying67 rfl Tryz.sizeOf3 (by decide) rfl) (al_p (q_load (i := 0) rfl rfl rfl Tryz.isAgg3) ?_)
          refine al_p (q_fieldAddr 1 rfl Tryz.runUnderlying67 rfl Tryz.sizeOf3 (by decide) rfl) (al_p (q_load (i := 1) rfl rfl rfl Tryz.isAgg3) (al_p (q_leq rfl rfl) (al_p (q_pickT rfl rfl) (al_end (aq_then ?_)))))
          refine aq_keepL [2, 3, 6, 7, 8, 9, 10, 11, 12, 13, 14, 15, 16, 17, 26, 27, 28, 32, 34, 35, 36, 40, 41, 42, 88, 89, 90, 91, 92, 93, 94, 95, 96, 97, 98, 99, 100, 101, 102, 103, 104, 105] (.cons rfl (.cons rfl (.cons rfl (.cons rfl (.cons rfl (.cons rfl (.cons rfl (.cons rfl (.cons rfl (.cons rfl (.cons rfl (.cons rfl (.cons rfl (.cons rfl (.cons rfl (.cons rfl (.cons rfl (.cons rfl (.cons rfl (.cons rfl (.cons rfl (.cons rfl (.cons rfl (.cons rfl (.cons rfl (.cons rfl (.cons rfl (.cons rfl (.cons rfl (.cons rfl (.cons rfl (.cons rfl (.cons rfl (.cons rfl (.cons rfl (.cons rfl (.cons rfl (.cons rfl (.cons rfl (.cons rfl (.cons rfl (.cons rfl .nil)))))))))))))))))))))))))))))))))))))))))) ?_
          refine ac_cond rfl (fun h5 => ?_) (fun h5 => ?_)
          ·have q5 := of_decide_eq_true h5
           have hbo : bothB (clL M (bgL M C) zs (v.1 : Int)) x.1 y.1 = true := by rw [both_iff, hclp, hclq]; exact ⟨(okAl_vld _ _ _ _).symm.trans q89, (okAl_vld _ _ _ _).symm.trans q92, by simp only; omega, by simp only; omega⟩
           refine ac_region (al_p (q_assign rfl) (al_end (aq_inN (aq_then ?_))))
           refine ac_region (al_p (q_move rfl) ?_)
           refine al_p (q_add rfl rfl (by omega)) (al_p (q_assign rfl) (al_end (aq_then ?_)))
           skip
           refine aq_round ((v.1 + 1, true)) (by simp only; omega) ⟨by simp only; omega, by simp only; first | (rw [togU_succ, hbo, Bool.or_true]) | (rw [togU_succ, hbo, Bool.or_false]; exact hv2)⟩ ⟨rfl, rfl, rfl, rfl, rfl, rfl, rfl, rfl, rfl, rfl, rfl, rfl, rfl, rfl, rfl, rfl, rfl, trivial⟩ (fun w9 hs => ((hs.fewer 1 rfl).tail 2 rfl))
          ·have q5 := of_decide_eq_false h5
           have hbo : bothB (clL M (bgL M C) zs (v.1 : Int)) x.1 y.1 = false := by rw [Bool.eq_false_iff]; intro h9; rw [both_iff, hclp, hclq] at h9; have := h9.2.2.2; simp only at this; omega
           refine ac_skip (aq_inN (aq_then (ac_region (al_p (q_move rfl) ?_))))
           refine al_p (q_add rfl rfl (by omega)) (al_p (q_assign rfl) (al_end (aq_then ?_)))
           skip
           refine aq_round ((v.1 + 1, v.2)) (by simp only; omega) ⟨by simp only; omega, by simp only; first | (rw [togU_succ, hbo, Bool.or_true]) | (rw [togU_succ, hbo, Bool.or_false]; exact hv2)⟩ ⟨rfl, rfl, rfl, rfl, rfl, rfl, rfl, rfl, rfl, rfl, rfl, rfl, rfl, rfl, rfl, rfl, rfl, trivial⟩ (fun w9 hs => ((hs.fewer 1 rfl).tail 2 rfl))
         ·have q99 := of_decide_eq_false hb3
          have hbo : bothB (clL M (bgL M C) zs (v.1 : Int)) x.1 y.1 = false := by rw [Bool.eq_false_iff]; intro h9; rw [both_iff, hclp, hclq] at h9; have := h9.2.2.1; simp only at this; omega
          refine al_skip rfl rfl rfl (al_skip rfl rfl rfl (al_skip rfl rfl rfl (al_skip rfl rfl rfl (al_skip rfl rfl rfl ?_))))
          refine al_p (q_pickF rfl rfl) (al_end (aq_then ?_))
          refine ac_condF rfl (ac_skip (aq_inN (aq_then (ac_region ?_))))
          refine al_p (q_move rfl) ?_
          refine al_p (q_add rfl rfl (by omega)) (al_p (q_assign rfl) (al_end (aq_then ?_)))
          skip
          refine aq_round ((v.1 + 1, v.2)) (by simp only; omega) ⟨by simp only; omega, by simp only; first | (rw [togU_succ, hbo, Bool.or_true]) | (rw [togU_succ, hbo, Bool.or_false]; exact hv2)⟩ ⟨rfl, rfl, rfl, rfl, rfl, rfl, rfl, rfl, rfl, rfl, rfl, rfl, rfl, rfl, rfl, rfl, rfl, trivial⟩ (fun w9 hs => ((hs.fewer 1 rfl).tail 2 rfl))
        ·have hbo : bothB (clL M (bgL M C) zs (v.1 : Int)) x.1 y.1 = false := by rw [Bool.eq_false_iff]; intro h9; rw [both_iff, hclp, hclq] at h9; rw [← okAl_vld, ← okAl_vld, hb2] at h9; cases h9.2.1
         refine al_skip rfl rfl rfl (al_skip rfl rfl rfl (al_skip rfl rfl rfl (al_skip rfl rfl rfl (al_skip rfl rfl rfl ?_))))
         refine al_p (q_pickF rfl rfl) (al_p (q_move rfl) (al_skip rfl rfl rfl (al_skip rfl rfl rfl (al_skip rfl rfl rfl ?_))))
         refine al_skip rfl rfl rfl (al_skip rfl rfl rfl (al_p (q_pickF rfl rfl) (al_end (aq_then ?_))))
         refine ac_condF rfl (ac_skip (aq_inN (aq_then (ac_region ?_))))
         refine al_p (q_move rfl) ?_
         refine al_p (q_add rfl rfl (by omega)) (al_p (q_assign rfl) (al_end (aq_then ?_)))
         skip
         refine aq_round ((v.1 + 1, v.2)) (by simp only; omega) ⟨by simp only; omega, by simp only; first | (rw [togU_succ, hbo, Bool.or_true]) | (rw [togU_succ, hbo, Bool.or_false]; exact hv2)⟩ ⟨rfl, rfl, rfl, rfl, rfl, rfl, rfl, rfl, rfl, rfl, rfl, rfl, rfl, rfl, rfl, rfl, rfl, trivial⟩ (fun w9 hs => ((hs.fewer 1 rfl).tail 2 rfl))
       ·have hbo : bothB (clL M (bgL M C) zs (v.1 : Int)) x.1 y.1 = false := by rw [Bool.eq_false_iff]; intro h9; rw [both_iff, hclp, hclq] at h9; rw [← okAl_vld, hb1] at h9; cases h9.1
        refine al_skip rfl rfl rfl (al_p (q_pickF rfl rfl) (al_p (q_move rfl) (al_skip rfl rfl rfl (al_skip rfl rfl rfl ?_))))
        refine al_skip rfl rfl rfl (al_skip rfl rfl rfl (al_skip rfl rfl rfl (al_p (q_pickF rfl rfl) (al_p (q_move rfl) ?_))))
        refine al_skip rfl rfl rfl (al_skip rfl rfl rfl (al_skip rfl rfl rfl (al_skip rfl rfl rfl (al_skip rfl rfl rfl ?_))))
        refine al_p (q_pickF rfl rfl) (al_end (aq_then ?_))
        refine ac_condF rfl (ac_skip (aq_inN (aq_then (ac_region ?_))))
        refine al_p (q_move rfl) ?_
        refine al_p (q_add rfl rfl (by omega)) (al_p (q_assign rfl) (al_end (aq_then ?_)))
        skip
        refine aq_round ((v.1 + 1, v.2)) (by simp only; omega) ⟨by simp only; omega, by simp only; first | (rw [togU_succ, hbo, Bool.or_true]) | (rw [togU_succ, hbo, Bool.or_false]; exact hv2)⟩ ⟨rfl, rfl, rfl, rfl, rfl, rfl, rfl, rfl, rfl, rfl, rfl, rfl, rfl, rfl, rfl, rfl, rfl, trivial⟩ (fun w9 hs => ((hs.fewer 1 rfl).tail 2 rfl))
    ·have hve : v.1 = C.plasma.length := by have := of_decide_eq_false h4; omega
     refine ac_exit (aq_thenE (aq_thenE (aq_hit (aq_then ?_))))
     refine ac_seq (ac_region ?_)
     refine al_p (q_move rfl) (al_p (q_not rfl) (al_end (aq_then ?_)))
     refine ac_cond rfl (fun h6 => ?_) (fun h6 => ?_)
     ·have htg : togU M C zs x.1 y.1 C.plasma.length = false := by rw [← hve, ← hv2]; simpa using h6
      have hct := exc_yes (tog := (fun a b => togU M C zs a b C.plasma.length)) (n := M.sensors.length) (a := x.1) (b := y.1) hxy htg
      refine ac_region (al_p (q_move rfl) (al_p (q_move rfl) (al_p (q_move rfl) (al_p (q_build (.cons rfl (.cons rfl .nil)) (cak_bl_x47_0_1 _ _ rfl rfl)) ?_))))
      refine al_new (fun b => .slice (some ⟨b, 0, none⟩) 1 1) (r_buildSlice (.cons rfl .nil) (cak_bs_2int_1_0_ _ _)) rfl rfl rfl ?_
      intro b8
      refine al_grow (z := 2) (bytes := 16) (zv := (.agg #[.int .i64 0, .int .i64 0])) (o := y.2.1) (cs := y.2.2) (vs := [.int .i64 (x.1 : Int), .int .i64 (y.1 : Int)]) rfl rfl (.s (.s (.s (.s (.z))))) hgk2 (Sor.box (j := 0) rfl rfl rfl) Tryz.underlying44 (by kernel_rfl) rfl (by omega) (by decide) rfl rfl (fun o_1 g_1 => ?_)
      refine ⟨_, (.s (.s (.s (.s (.z))))), ?_⟩
      refine al_p (q_assign rfl) (al_end (aq_inN (aq_then (ac_region ?_))))
      refine al_p (q_move rfl) ?_
      refine al_p (q_add rfl rfl (by omega)) (al_p (q_assign rfl) (al_end (aq_then ?_)))
      skip
      refine aq_round ((y.1 + 1, o_1, (y.2.2 ++ [.int .i64 (x.1 : Int), .int .i64 (y.1 : Int)]))) (by simp only; omega) ⟨by simp only; omega, by simp only; omega, by simp only; rw [hct, List.length_append]; exact g_1, by simp only; rw [hct, hcs2]; exact (flat_snoc pairN _ (x.1, y.1)).symm⟩ ⟨rfl, rfl, rfl, rfl, rfl, (by simp only; rw [hct]; first | rfl | (rw [len_snoc]; rfl)), rfl, rfl, rfl, rfl, rfl, rfl, trivial⟩ (fun w9 hs => ((hs.fewer 1 rfl).tail 1 rfl))
     ·have htg : togU M C zs x.1 y.1 C.plasma.length = true := by rw [← hve, ← hv2]; simpa using h6
      have hct := exc_no (tog := (fun a b => togU M C zs a b C.plasma.length)) (n := M.sensors.length) (a := x.1) (b := y.1) htg
      refine ac_skip (aq_inN (aq_then (ac_region (al_p (q_move rfl) ?_))))
      refine al_p (q_add rfl rfl (by omega)) (al_p (q_assign rfl) (al_end (aq_then ?_)))
      skip
      refine aq_round ((y.1 + 1, y.2.1, y.2.2)) (by simp only; omega) ⟨by simp only; omega, by simp only; omega, by simp only; rw [hct]; exact hgk2, by simp only; rw [hct]; exact hcs2⟩ ⟨rfl, rfl, rfl, rfl, rfl, (by simp only; rw [hct]; first | rfl | (rw [len_snoc]; rfl)), rfl, rfl, rfl, rfl, rfl, rfl, trivial⟩ (fun w9 hs => (hs.fewer 1 rfl))
   ·have hye : y.1 = M.sensors.length := by have := of_decide_eq_false h3; omega
    refine ac_exit (aq_thenE (aq_thenE (aq_hit (aq_inN ?_))))
    refine aq_then (ac_region (al_p (q_move rfl) ?_))
    refine al_p (q_add rfl rfl (by omega)) (al_p (q_assign rfl) (al_end (aq_then ?_)))
    skip
    refine aq_round ((x.1 + 1, y.2.1, y.2.2)) (by simp only; omega) ⟨by simp only; omega, by simp only; rw [exc_all (b := y.1) (by omega)]; exact hgk2, by simp only; rw [exc_all (b := y.1) (by omega)]; exact hcs2⟩ ⟨rfl, rfl, rfl, rfl, rfl, (by simp only; rw [exc_all (b := y.1) (by omega)]; rfl), rfl, trivial⟩ (fun w9 hs => hs)
  ·have hxe : x.1 = M.sensors.length := by have := of_decide_eq_false h2; omega
   refine ac_exit (aq_thenE (aq_thenE (aq_hit (aq_then ?_))))
   refine ac_seq (ac_region ?_)
   refine al_p (q_move rfl) (al_p (q_assign rfl) (al_p (q_assign rfl) (al_end (aq_then ?_))))
   refine ac_ret (ret2 Tryz.results12 rfl rfl (fun w9 hs => ?_))
   have hL : excZ M C zs = (excU (fun a b => togU M C zs a b C.plasma.length) M.sensors.length x.1) := by unfold excZ; rw [if_pos he, hxe]
   unfold candE; rw [if_pos he, hL]; exact OutT.ok (hs.grown (enc := pairN) (o := x.2.1) (cs := x.2.2) (zs := (excU (fun a b => togU M C zs a b C.plasma.length) M.sensors.length x.1)) (fun _ => rfl) (fun y hy => by simp [hy]) hgk hcs.symm rfl) hs.below
end
section
open Go.RowKit
set_option maxRecDepth 100000 in
theorem accuses_lit (R : MachR) (M : MachD) (Q : CurR) (C : CurD) (F : Option Addr) (nf cf : Nat) (zs : List SpanD) (w : World) (hM0 : R.la ≤ 1000000000000000 → R.lb ≤ 1000000000000000 → R.lc ≤ 1000000000000000 → R.ld ≤ 1000000000000000 → IsM w R M) (hC0 : Q.la ≤ 1000000000000000 → Q.lb ≤ 1000000000000000 → Q.lc ≤ 1000000000000000 → IsC w Q C) (hF : IsT 2 SpanD.cells w F nf zs) : Calls Tryz.prog 3 #[(.agg #[.string M.name, .slice R.A R.la R.ca, .slice R.B R.lb R.cb, .slice R.C R.lc R.cc, .int .i64 M.grid.r, .int .i64 M.grid.z, .int .i64 M.grid.nr, .int .i64 M.grid.nz, .int .i64 M.grid.step, .slice R.D R.ld R.cd, .slice Q.A Q.la Q.ca, .slice Q.B Q.lb Q.cb, .slice Q.C Q.lc Q.cc, .slice F nf cf])] w (Ret (.bool true) w) := by
 refine calls_ax (vs := [(.agg #[.string M.name, .slice R.A R.la R.ca, .slice R.B R.lb R.cb, .slice R.C R.lc R.cc, .int .i64 M.grid.r, .int .i64 M.grid.z, .int .i64 M.grid.nr, .int .i64 M.grid.nz, .int .i64 M.grid.step, .slice R.D R.ld R.cd, .slice Q.A Q.la Q.ca, .slice Q.B Q.lb Q.cb, .slice Q.C Q.lc Q.cc, .slice F nf cf])]) Tryz.func3 rfl rfl ?_
 refine ac_seq (ac_region ?_)
 refine al_new (fun b => .pointer (some ⟨b, 0, none⟩)) (r_box rfl rfl) rfl rfl rfl ?_
 intro b1
 refine al_p (q_assign rfl) (al_end (aq_then ?_))
 refine ac_seq (ac_seq (ac_region ?_))
 refine al_p (q_loadAll (i := 0) rfl rfl Tryz.isAgg35 Tryz.sizeOf35 rfl) (al_call Tryz.call6 (.cons rfl .nil) rfl rfl (fun w1 hs1 => ?_))
 refine (light9_any R M Q F nf cf _).mono ?_
 rintro e u1 ⟨rfl, hb_1⟩
 refine ⟨_, rfl, hb_1, ?_⟩
 clear hs1
 refine al_p (q_not rfl) (al_end (aq_then ?_))
 refine ac_cond rfl (fun h1 => ?_) (fun h1 => ?_)
 ·skip
  refine ac_seq (ac_region ?_)
  refine al_call Tryz.call7 .nil rfl rfl (fun w2 hs2 => ?_)
  refine (awake_any _).mono ?_
  rintro e u2 ⟨rfl, hb_2⟩
  refine ⟨_, rfl, hb_2, ?_⟩
  clear hs2
  refine al_p (q_assign rfl) (al_end (aq_then ?_))
  refine ac_ret (aq_thenR (ret1 Tryz.results3 rfl (fun w9 hs => ?_)))
  exact ⟨rfl, hs.below⟩
 ·obtain ⟨u1, u2, u3, u4, u5, u6, u7, u8⟩ := brief_bd (show briefB R.la R.lb R.lc R.ld Q.la Q.lb Q.lc nf = true by simpa using h1)
  have hM := hM0 (by omega) (by omega) (by omega) (by omega)
  have hC := hC0 (by omega) (by omega) (by omega)
  have hn : nf ≤ 1000000000000000 := by omega
  refine ac_skip (aq_then (ac_seq (ac_region ?_)))
  refine al_p (q_fieldAddr 0 rfl Tryz.runUnderlying35 rfl Tryz.sizeOf29 (by decide) rfl) (al_p (q_loadSub (i := 0) rfl rfl Tryz.isAgg29 Tryz.sizeOf29 .k0 .k10) ?_)
  refine al_p (q_fieldAddr 10 rfl Tryz.runUnderlying35 rfl Tryz.sizeOf32 (by decide) rfl) (al_p (q_loadSub (i := 0) rfl rfl Tryz.isAgg32 Tryz.sizeOf32 .k10 .k3) ?_)
  refine al_p (q_fieldAddr 13 rfl Tryz.runUnderlying35 rfl Tryz.sizeOf33 (by decide) rfl) (al_p (q_load (i := 0) rfl rfl rfl Tryz.isAgg33) (al_call Tryz.call8 (.cons rfl (.cons rfl (.cons rfl .nil))) rfl rfl (fun w3 hs3 => ?_)))
  refine (caccuse9_any R M Q C F nf cf zs _ (hM.below hs3.below) (hC.below hs3.below) (hF.below hs3.below) hn).mono ?_
  rintro e u3 ⟨A_a, n_a, c_a, rfl, N_a, hb_3⟩
  refine ⟨_, rfl, hb_3, ?_⟩
  clear hs3
  refine al_p (q_move rfl) (al_p (q_extract rfl rfl) (al_p (q_extract rfl rfl) (al_new (fun b => .pointer (some ⟨b, 0, none⟩)) (r_alloc Tryz.zeroValue39 rfl) rfl rfl rfl ?_)))
  intro b2
  refine al_storeAll (i := 0) rfl rfl rfl rfl Tryz.sizeOf39 rfl rfl .k0 rfl (al_p (q_assign rfl) (al_end (aq_then ?_)))
  refine ac_seq (ac_region ?_)
  refine al_p (q_fieldAddr 0 rfl Tryz.runUnderlying35 rfl Tryz.sizeOf29 (by decide) rfl) (al_p (q_loadSub (i := 1) rfl rfl Tryz.isAgg29 Tryz.sizeOf29 .k0 .k10) ?_)
  refine al_p (q_fieldAddr 10 rfl Tryz.runUnderlying35 rfl Tryz.sizeOf32 (by decide) rfl) (al_p (q_loadSub (i := 1) rfl rfl Tryz.isAgg32 Tryz.sizeOf32 .k10 .k3) ?_)
  refine al_p (q_fieldAddr 13 rfl Tryz.runUnderlying35 rfl Tryz.sizeOf33 (by decide) rfl) (al_p (q_load (i := 1) rfl rfl rfl Tryz.isAgg33) (al_call Tryz.call9 (.cons rfl (.cons rfl (.cons rfl .nil))) rfl rfl (fun w4 hs4 => ?_)))
  refine (raccuse4_any R M Q C F nf cf zs _ (hM.below hs4.below) (hC.below hs4.below) (hF.below hs4.below) hn).mono ?_
  rintro e u4 ⟨A_b, n_b, c_b, rfl, N_b, hb_4⟩
  refine ⟨_, rfl, hb_4, ?_⟩
  clear hs4
  refine al_p (q_move rfl) (al_p (q_extract rfl rfl) (al_p (q_extract rfl rfl) (al_new (fun b => .pointer (some ⟨b, 0, none⟩)) (r_alloc Tryz.zeroValue39 rfl) rfl rfl rfl ?_)))
  intro b3
  refine al_storeAll (i := 0) rfl rfl rfl rfl Tryz.sizeOf39 rfl rfl .k0 rfl (al_p (q_assign rfl) (al_end (aq_then ?_)))
  refine ac_seq (ac_seq (ac_region ?_))
  refine al_p (q_move rfl) (al_p (q_move rfl) ?_)
  refine al_p (q_same (v' := .bool false) (q_neq rfl rfl) (by simp)) (al_p (q_move rfl) ?_)
  refine al_p (q_fieldAddr 0 rfl Tryz.runUnderlying39 rfl Tryz.sizeOf3 (by decide) rfl) (al_p (q_load (i := 1) rfl rfl rfl Tryz.isAgg3) ?_)
  refine al_p (q_fieldAddr 0 rfl Tryz.runUnderlying39 rfl Tryz.sizeOf3 (by decide) rfl) (al_p (q_load (i := 0) rfl rfl rfl Tryz.isAgg3) ?_)
  refine al_p (q_same (v' := .bool false) (q_neq rfl rfl) (by simp)) (al_p (q_pickF rfl rfl) (al_p (q_move rfl) ?_))
  refine al_p (q_fieldAddr 1 rfl Tryz.runUnderlying39 rfl Tryz.sizeOf3 (by decide) rfl) (al_p (q_load (i := 1) rfl rfl rfl Tryz.isAgg3) ?_)
  refine al_p (q_fieldAddr 1 rfl Tryz.runUnderlying39 rfl Tryz.sizeOf3 (by decide) rfl) (al_p (q_load (i := 0) rfl rfl rfl Tryz.isAgg3) ?_)
  refine al_p (q_same (v' := .bool false) (q_neq rfl rfl) (by simp)) (al_p (q_pickF rfl rfl) (al_p (q_move rfl) ?_))
  refine al_p (q_fieldAddr 2 rfl Tryz.runUnderlying39 rfl Tryz.sizeOf30 (by decide) rfl) (al_p (q_load (i := 1) rfl rfl rfl Tryz.isAgg30) ?_)
  refine al_p (q_fieldAddr 2 rfl Tryz.runUnderlying39 rfl Tryz.sizeOf30 (by decide) rfl) (al_p (q_load (i := 0) rfl rfl rfl Tryz.isAgg30) (al_call Tryz.call10 (.cons rfl (.cons rfl .nil)) rfl rfl (fun w5 hs5 => ?_)))
  have hia := (hs5.newT (.tail _ (.head _)) N_a)
  have hib := (hs5.newT (.head _) N_b)
  have hl1 := accZ_len M C zs
  have hl2 := hia.1
  have hl3 := hib.1
  have hl4 := hM.sensors.1
  refine (rsame_true A_a A_b n_a c_a n_b c_b (accZ M C zs) _ hia hib (by omega) (by omega)).mono ?_
  rintro e u5 ⟨rfl, hb_5⟩
  refine ⟨_, rfl, hb_5, ?_⟩
  clear hs5
  refine al_p (q_not rfl) (al_p (q_pickF rfl rfl) (al_end (aq_then ?_)))
  refine ac_condF rfl (ac_skip (aq_then (ac_seq (ac_region ?_))))
  refine al_p (q_fieldAddr 0 rfl Tryz.runUnderlying35 rfl Tryz.sizeOf29 (by decide) rfl) (al_p (q_loadSub (i := 2) rfl rfl Tryz.isAgg29 Tryz.sizeOf29 .k0 .k10) ?_)
  refine al_p (q_fieldAddr 10 rfl Tryz.runUnderlying35 rfl Tryz.sizeOf32 (by decide) rfl) (al_p (q_loadSub (i := 2) rfl rfl Tryz.isAgg32 Tryz.sizeOf32 .k10 .k3) ?_)
  refine al_p (q_fieldAddr 13 rfl Tryz.runUnderlying35 rfl Tryz.sizeOf33 (by decide) rfl) (al_p (q_load (i := 2) rfl rfl rfl Tryz.isAgg33) (al_call Tryz.call11 (.cons rfl (.cons rfl (.cons rfl .nil))) rfl rfl (fun w6 hs6 => ?_)))
  refine (cexcl9_any R M Q C F nf cf zs _ (hM.below hs6.below) (hC.below hs6.below) (hF.below hs6.below) hn).mono ?_
  rintro e u6 ⟨A_l, n_l, c_l, rfl, N_l, hb_6⟩
  refine ⟨_, rfl, hb_6, ?_⟩
  clear hs6
  refine al_p (q_move rfl) (al_p (q_extract rfl rfl) (al_p (q_extract rfl rfl) (al_p (q_assign rfl) (al_p (q_assign rfl) ?_))))
  refine al_end (aq_then ?_)
  refine ac_seq (ac_region ?_)
  refine al_p (q_fieldAddr 0 rfl Tryz.runUnderlying35 rfl Tryz.sizeOf29 (by decide) rfl) (al_p (q_loadSub (i := 2) rfl rfl Tryz.isAgg29 Tryz.sizeOf29 .k0 .k10) ?_)
  refine al_p (q_fieldAddr 10 rfl Tryz.runUnderlying35 rfl Tryz.sizeOf32 (by decide) rfl) (al_p (q_loadSub (i := 2) rfl rfl Tryz.isAgg32 Tryz.sizeOf32 .k10 .k3) ?_)
  refine al_p (q_fieldAddr 13 rfl Tryz.runUnderlying35 rfl Tryz.sizeOf33 (by decide) rfl) (al_p (q_load (i := 2) rfl rfl rfl Tryz.isAgg33) (al_call Tryz.call12 (.cons rfl (.cons rfl (.cons rfl .nil))) rfl rfl (fun w7 hs7 => ?_)))
  refine (rexcl4_any R M Q C F nf cf zs _ (hM.below hs7.below) (hC.below hs7.below) (hF.below hs7.below) hn).mono ?_
  rintro e u7 ⟨A_k, n_k, c_k, rfl, N_k, hb_7⟩
  have hnn : n_l = n_k := by have := N_l.isT.1; have := N_k.isT.1; omega
  have hl5 := excZ_len (M := M) (C := C) (zs := zs) (by have := hM.sensors.1; omega)
  have hl6 := N_l.isT.1
  refine ⟨_, rfl, hb_7, ?_⟩
  clear hs7
  refine al_p (q_move rfl) (al_p (q_extract rfl rfl) (al_p (q_extract rfl rfl) (al_p (q_assign rfl) (al_p (q_assign rfl) ?_))))
  refine al_end (aq_then ?_)
  refine aq_keepL [2, 7, 8, 9, 10] (.cons rfl (.cons rfl (.cons rfl (.cons rfl (.cons rfl .nil))))) ?_
  refine ac_seq (ac_seq (ac_region ?_))
  refine al_p (q_move rfl) (al_p (q_move rfl) ?_)
  refine al_p (q_same (v' := .bool false) (q_neq rfl rfl) (by simp)) (al_p (q_move rfl) (al_p (q_move rfl) (al_p (q_lenS rfl Tryz.runUnderlying44) (al_p (q_move rfl) ?_))))
  refine al_p (q_lenS rfl Tryz.runUnderlying44) ?_
  refine al_p (q_same (v' := .bool false) (q_neq rfl rfl) (by simp [hnn])) (al_p (q_pickF rfl rfl) (al_end (aq_then ?_)))
  refine ac_condF rfl (ac_skip (aq_then (ac_seq (ac_seq (ac_region ?_)))))
  refine al_p (q_assign rfl) (al_end (aq_then ?_))
  refine ac_block ?_
  refine ac_loop (β := Nat) (fun k => k ≤ n_l) (fun k => [(2, (.bool false)), (7, (.slice A_l n_l c_l)), (9, (.slice A_k n_k c_k)), (11, (.int .i64 (k : Int)))]) (fun _ => _) (fun k => [(b3, _), (b2, _), (b1, _)]) (fun k => n_l - k) 0 (by omega) ⟨rfl, rfl, rfl, rfl, trivial⟩ (fun w9 hs => hs) (fun k hF1 => ?_)
  refine ac_seq (ac_seq (ac_region ?_))
  refine al_p (q_move rfl) (al_p (q_move rfl) (al_p (q_lenS rfl Tryz.runUnderlying44) (al_p (q_lss rfl rfl) (al_end (aq_then ?_)))))
  refine ac_cond rfl (fun h2 => ?_) (fun h2 => ?_)
  ·have hkn : k < n_l := by have := of_decide_eq_true h2; omega
   obtain ⟨b_p, o_p, hA_p, hlt_p, hget_p⟩ := N_l.isT.2 (by omega)
   have hx_p := getD_get (l := excZ M C zs) (d := (0, 0)) (k := k) (by omega)
   obtain ⟨b_q, o_q, hA_q, hlt_q, hget_q⟩ := N_k.isT.2 (by omega)
   have hx_q := getD_get (l := excZ M C zs) (d := (0, 0)) (k := k) (by omega)
   refine ac_skip (aq_then (ac_seq (ac_block (ac_seq ?_))))
   refine ac_draw 8 (by kernel_rfl) (by kernel_rfl) ?_
   refine ah_t 0 (fun w9 hs => hs) rfl rfl (by kernel_rfl) (q_move rfl) (ah_t 1 (fun w9 hs => hs) rfl rfl (by kernel_rfl) (q_move rfl) ?_)
   refine ah_t 2 (fun w9 hs => hs) rfl rfl (by kernel_rfl) (q_indexAddrA (i := k) (o_p + k * 2 + 0) hA_p rfl rfl rfl (by omega) Tryz.runUnderlying44 Tryz.sizeOf47 rfl) (ah_t 3 (fun w9 hs => hs) rfl rfl (by kernel_rfl) (q_loadXs (pairN ((excZ M C zs).getD k (0, 0))) rfl Tryz.isAgg47 Tryz.sizeOf47 (fun w9 hs j9 v9 h9 => by rw [addr_add]; exact (hs.cellOf (.tail _ (.head _)) (N_l.new _ _ hA_p) hlt_p (hget_p k _ hx_p j9 v9 h9))) rfl) (ah_t 4 (fun w9 hs => hs) rfl rfl (by kernel_rfl) (q_move rfl) (ah_t 5 (fun w9 hs => hs) rfl rfl (by kernel_rfl) (q_move rfl) ?_)))
   refine ah_t 6 (fun w9 hs => hs) rfl rfl (by kernel_rfl) (q_indexAddrA (i := k) (o_q + k * 2 + 0) hA_q rfl rfl rfl (by omega) Tryz.runUnderlying44 Tryz.sizeOf47 rfl) (ah_t 7 (fun w9 hs => hs) rfl rfl (by kernel_rfl) (q_loadXs (pairN ((excZ M C zs).getD k (0, 0))) rfl Tryz.isAgg47 Tryz.sizeOf47 (fun w9 hs j9 v9 h9 => by rw [addr_add]; exact (hs.cellOf (.head _) (N_k.new _ _ hA_q) hlt_q (hget_q k _ hx_q j9 v9 h9))) rfl) (ah_t 8 (fun w9 hs => hs) rfl rfl (by kernel_rfl) (q_same (v' := .bool false) (q_cmpS rfl rfl (by kernel_rfl) (neq_pair _ _)) (rfl)) (ah_done (by kernel_rfl) ?_)))
   refine aq_then (ac_condF rfl (ac_skip (aq_inN (aq_then ?_))))
   refine ac_region (al_p (q_move rfl) ?_)
   refine al_p (q_add rfl rfl (by omega)) (al_p (q_assign rfl) (al_end (aq_then ?_)))
   skip
   refine aq_round (k + 1) (by omega) (by omega) ⟨rfl, rfl, rfl, rfl, trivial⟩ (fun w9 hs => hs)
  ·skip
   refine ac_exit (aq_thenE (aq_thenE (aq_hit (aq_then ?_))))
   refine ac_seq (ac_region ?_)
   refine al_call Tryz.call7 .nil rfl rfl (fun w8 hs8 => ?_)
   refine (awake_any _).mono ?_
   rintro e u8 ⟨rfl, hb_8⟩
   refine ⟨_, rfl, hb_8, ?_⟩
   clear hs8
   refine al_p (q_assign rfl) (al_end (aq_then ?_))
   refine ac_ret (ret1 Tryz.results3 rfl (fun w9 hs => ?_))
   exact ⟨rfl, hs.below⟩
theorem accuses_walk (R : MachR) (M : MachD) (Q : CurR) (C : CurD) (F : Option Addr) (nf cf : Nat) (zs : List SpanD) (w : World) (hM0 : R.la ≤ 1000000000000000 → R.lb ≤ 1000000000000000 → R.lc ≤ 1000000000000000 → R.ld ≤ 1000000000000000 → IsM w R M) (hC0 : Q.la ≤ 1000000000000000 → Q.lb ≤ 1000000000000000 → Q.lc ≤ 1000000000000000 → IsC w Q C) (hF : IsT 2 SpanD.cells w F nf zs) : Calls Tryz.prog 3 #[.agg (machCells R M ++ #[.slice Q.A Q.la Q.ca, .slice Q.B Q.lb Q.cb, .slice Q.C Q.lc Q.cc, .slice F nf cf])] w (Ret (.bool true) w) := accuses_lit R M Q C F nf cf zs w hM0 hC0 hF
end
end Go.Proofs.YthggkidiidnaoaaGreatDoor
