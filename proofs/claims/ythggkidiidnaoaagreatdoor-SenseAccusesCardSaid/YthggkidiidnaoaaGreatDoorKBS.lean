import Derived.Test.YthggkidiidnaoaaGreatDoorKBO
import Derived.Test.YthggkidiidnaoaaGreatDoorKBR
import Derived.Test.YthggkidiidnaoaaGreatDoorRows
import Derived.KernelRfl
import Derived.Laws.StructEq
namespace Go.Proofs.YthggkidiidnaoaaGreatDoor
set_option linter.unusedVariables false
set_option linter.unusedSimpArgs false
section
open Go.RowKit
theorem accS_next {cnt : Int → Int} {i cu : Int} {l : List Int} {s s0 : Bst} {n : Nat} (hv : s = (l.take n).foldl (accS cnt i) s0) (hcu : l[n]? = some cu) : (l.take (n + 1)).foldl (accS cnt i) s0 = accS cnt i s cu := by
 rw [List.take_add_one, hcu, Option.toList_some, List.foldl_append, ← hv]; rfl
theorem accS_yes {cnt : Int → Int} {i x c : Int} {s : Bst} (hc : c = cnt x) (h : s.1 < cnt x ∨ (cnt x = s.1 ∧ s.2.1 = i ∧ x < s.2.2)) : accS cnt i s x = (c, i, x) := by unfold accS; rw [if_pos h, hc]
theorem accS_no {cnt : Int → Int} {i x : Int} {s : Bst} (h : ¬ (s.1 < cnt x ∨ (cnt x = s.1 ∧ s.2.1 = i ∧ x < s.2.2))) : accS cnt i s x = s := by unfold accS; rw [if_neg h]
structure LyS where
 (k : Nat) (o : Gr) (cs : List Value) (A : Option Addr) (n c : Nat)
theorem new_from {A : Option Addr} {c lo z L b1 o1 : Nat} (hA : A = some ⟨b1, o1, none⟩) (h : L ≤ b1) (b o : Nat) (e : (if c = lo then A else A.map (·.add (lo * z))) = some ⟨b, o, none⟩) : L ≤ b := by
 subst hA
 split at e
 ·cases e; exact h
 ·have e2 : (⟨b1, o1, none⟩ : Addr).add (lo * z) = ⟨b, o, none⟩ := Option.some.inj e
  unfold Addr.add at e2
  split at e2 <;> (cases e2; exact h)
theorem ly_step (zs : List SpanD) (cur : Int) {k : Nat} (hk : k < zs.length) : ((agL zs cur)[agC zs cur k]? = some (k : Int) ∧ agC zs cur (k + 1) = agC zs cur k + 1 ∧ lyU zs cur (k + 1) = lyU zs cur k) ∨ ((agL zs cur)[agC zs cur k]? ≠ some (k : Int) ∧ agC zs cur (k + 1) = agC zs cur k ∧ lyU zs cur (k + 1) = lyU zs cur k ++ [k]) := by
 obtain ⟨h1, h2⟩ := agL_drop zs cur k hk
 cases h : cont (zs.getD k ⟨0, 0⟩).lo (zs.getD k ⟨0, 0⟩).hi cur
 ·obtain ⟨a, b⟩ := h2 h
  exact Or.inr ⟨fun e => b _ e rfl, a, lyU_yes h⟩
 ·obtain ⟨a, b⟩ := h1 h
  exact Or.inl ⟨a, b, lyU_no h⟩
def lyV (zs : List SpanD) (cur : Int) (k : Nat) : List Value := (lyU zs cur k).map fun (j : Nat) => Value.int .i64 (j : Int)
theorem cai_bl_apiBlame_ : ∀ w, (Instr.build 39 #[]).run Tryz.prog w = .ok (.agg #[(.int .i64 0), (.int .i64 0), (.slice none 0 0)]) w := by
 intro w; simp [Instr.build, Instr.fill, cells_agg, Tryz.runUnderlying39, Tryz.zeroValue39, Tryz.sizeOf3, Tryz.sizeOf30]
theorem cai_bs_int_1_0_ (a0 : Value) (ha0 : a0.oneCell' = true) : ∀ w, (Instr.buildSlice 30 1 #[(0, a0)]).run Tryz.prog w = .ok (.slice (some ⟨w.heap.size, 0, none⟩) 1 1) (w.alloc (.cells [a0].toArray 3)) := by
 have ea0 : a0.cells = #[a0] := cells_one ha0
 intro w; (simp [Instr.buildSlice, Instr.fill, cells_agg, newRow, Tryz.runUnderlying30, Tryz.zeroValue3, Tryz.sizeOf3, ea0] <;> (rw [(by kernel_rfl : Array.range 1 = #[0])]; simp [Value.cells]))
theorem cai_bl_apiBlame_0_1 (a0 a1 : Value) (ha0 : a0.oneCell' = true) (ha1 : a1.oneCell' = true) : ∀ w, (Instr.build 39 #[(0, a0), (1, a1)]).run Tryz.prog w = .ok (.agg #[a0, a1, (.slice none 0 0)]) w := by
 have ea0 : a0.cells = #[a0] := cells_one ha0
 have ea1 : a1.cells = #[a1] := cells_one ha1
 intro w; simp [Instr.build, Instr.fill, cells_agg, Tryz.runUnderlying39, Tryz.zeroValue39, Tryz.sizeOf3, Tryz.sizeOf30, ea0, ea1]
set_option maxRecDepth 100000 in
theorem raccuse4_any (R : MachR) (M : MachD) (Q : CurR) (C : CurD) (F : Option Addr) (nf cf : Nat) (zs : List SpanD) (w : World) (hM : IsM w R M) (hC : IsC w Q C) (hF : IsT 2 SpanD.cells w F nf zs) (hn : nf ≤ 1000000000000000) : Calls Tryz.prog 9 #[(.agg (machCells R M)), Q.v, (.slice F nf cf)] w (OutB w (candE M C zs) (accB M C zs) (accZ M C zs)) := by
 refine calls_ax (vs := [(.agg (machCells R M)), Q.v, (.slice F nf cf)]) Tryz.func9 rfl rfl ?_
 refine ac_seq (ac_region ?_)
 refine al_new (fun b => .pointer (some ⟨b, 0, none⟩)) (r_box rfl rfl) rfl rfl rfl ?_
 intro b1
 refine al_new (fun b => .pointer (some ⟨b, 0, none⟩)) (r_box rfl rfl) rfl rfl rfl ?_
 intro b2
 refine al_new (fun b => .pointer (some ⟨b, 0, none⟩)) (r_alloc Tryz.zeroValue39 rfl) rfl rfl rfl ?_
 intro b3
 refine al_p (q_assign rfl) (al_end (aq_then ?_))
 refine ac_seq (ac_seq (ac_region ?_))
 refine al_p (q_loadAll (i := 2) rfl rfl Tryz.isAgg29 Tryz.sizeOf29 rfl) (al_p (q_loadAll (i := 1) rfl rfl Tryz.isAgg32 Tryz.sizeOf32 rfl) (al_p (q_move rfl) (al_call Tryz.call24 (.cons rfl (.cons rfl (.cons rfl .nil))) rfl rfl (fun w1 hs1 => ?_))))
 refine (rready4_any R M Q C F nf cf zs _ (hM.below hs1.below) (hC.below hs1.below) (hF.below hs1.below) hn).mono ?_
 rintro e u1 ⟨rfl, hb_1⟩
 refine ⟨_, rfl, hb_1, ?_⟩
 clear hs1
 refine al_p (q_not rfl) (al_end (aq_then ?_))
 refine ac_cond rfl (fun h1 => ?_) (fun h1 => ?_)
 ·have hE : explB M C zs = false := by simpa using h1
  refine ac_seq (ac_region ?_)
  refine al_p (q_build .nil (cai_bl_apiBlame_)) (al_storeAll (i := 0) rfl rfl rfl rfl Tryz.sizeOf39 rfl rfl .k0 rfl (al_p (q_assign rfl) (al_end (aq_then ?_))))
  refine ac_ret (aq_thenR (retR Tryz.results9 (.agg (i := 0) rfl rfl Tryz.isAgg39 Tryz.sizeOf39 rfl (.tmp rfl .nil)) .two (fun w9 hs => ?_)))
  unfold accB accZ candE; rw [if_neg (by rw [hE]; decide), if_neg (by rw [hE]; decide), if_neg (by rw [hE]; decide)]; exact OutB.nil hs.below
 ·have he : explB M C zs = true := by simpa using h1
  have hexp := explB_iff.1 he
  obtain ⟨hv, hzl, hzs⟩ := hexp
  have hvc := fit2_iff.2 hv
  have hs0 := sound_of hv.check
  have hg := cells_fine hs0.grid
  have hsn := hs0.sensors.1
  have hld := hM.sensors.1
  have hnz := hF.1
  have hcp := hv.plasma.1
  have qc := hC.plasma.1
  have hkc := hC.kc
  have hcn : cellsN M = M.grid.nr * M.grid.nz := by simp [cellsN, hv.check]
  refine ac_skip (aq_then (ac_seq (ac_region ?_)))
  refine al_p (q_loadAll (i := 2) rfl rfl Tryz.isAgg29 Tryz.sizeOf29 rfl) (al_p (q_loadAll (i := 1) rfl rfl Tryz.isAgg32 Tryz.sizeOf32 rfl) (al_call Tryz.call25 (.cons rfl (.cons rfl .nil)) rfl rfl (fun w2 hs2 => ?_)))
  refine (rtable_any R M Q C _ (hM.below hs2.below) (hC.below hs2.below) hv).mono ?_
  rintro e u2 ⟨A_t, c_t, B_t, d_t, rw_t, rfl, N_t, hb_2⟩
  refine ⟨_, rfl, hb_2, ?_⟩
  clear hs2
  refine al_new (fun b => .pointer (some ⟨b, 0, none⟩)) (r_alloc Tryz.zeroValue89 rfl) rfl rfl rfl ?_
  intro b4
  refine al_storeAll (i := 0) rfl rfl rfl rfl Tryz.sizeOf89 rfl rfl .k0 rfl (al_end (aq_then ?_))
  refine ac_seq (ac_region ?_)
  refine al_new (fun b => .pointer (some ⟨b, 0, none⟩)) (r_alloc Tryz.zeroValue39 rfl) rfl rfl rfl ?_
  intro b5
  refine al_end (aq_then ?_)
  refine ac_seq (ac_region ?_)
  refine al_p (q_assign rfl) (al_end (aq_then ?_))
  refine ac_seq (ac_seq (ac_region ?_))
  refine al_p (q_assign rfl) (al_end (aq_then ?_))
  refine ac_block (ac_loop (β := Nat × Bst) (fun x => x.1 ≤ (M.grid.nr * M.grid.nz).toNat ∧ x.2 = accU (cntA M C zs) (triA M C zs) x.1) (fun x => [(2, (.slice F nf cf)), (3, (.pointer (some ⟨b1, 0, none⟩))), (6, (.pointer (some ⟨b3, 0, none⟩))), (7, (.int .i64 0)), (8, (.pointer (some ⟨b4, 0, none⟩))), (9, (.pointer (some ⟨b5, 0, none⟩))), (10, (.int .i64 x.2.1)), (11, (.int .i64 (x.1 : Int)))]) (fun _ => _) (fun x => [(b5, .cells [.int .i64 x.2.2.1, .int .i64 x.2.2.2, .slice none 0 0]), (b4, _), (b3, _), (b2, _), (b1, _)]) (fun x => (M.grid.nr * M.grid.nz).toNat - x.1) (0, (-1, 0, 0)) ⟨by simp, rfl⟩ ⟨rfl, rfl, rfl, rfl, rfl, rfl, rfl, rfl, trivial⟩ (fun w9 hs => hs) (fun x hF1 => ?_))
  obtain ⟨hxn, hx2⟩ := hF1
  refine ac_seq (ac_seq (ac_region ?_))
  refine al_p (q_move rfl) (al_p (q_loadAll (i := 4) rfl rfl Tryz.isAgg29 Tryz.sizeOf29 rfl) (al_call Tryz.call26 (.cons rfl .nil) rfl rfl (fun w3 hs3 => ?_)))
  refine (rcellsN_any R M _ (hM.below hs3.below)).mono ?_
  rintro e u3 ⟨rfl, hb_3⟩
  refine ⟨_, rfl, hb_3, ?_⟩
  clear hs3
  refine al_p (q_lss rfl rfl) (al_end (aq_then ?_))
  refine ac_cond rfl (fun h2 => ?_) (fun h2 => ?_)
  ·have hxl : x.1 < (M.grid.nr * M.grid.nz).toNat := by have := of_decide_eq_true h2; omega
   refine ac_skip (aq_then (ac_seq (ac_block (ac_seq (ac_region ?_)))))
   refine al_new (fun b => .slice (some ⟨b, 0, none⟩) 1 1) (r_buildSlice (.cons rfl .nil) (cai_bs_int_1_0_ _ rfl)) rfl rfl rfl ?_
   intro b6
   refine al_p (q_assign rfl) (al_end (aq_then ?_))
   refine ac_seq (ac_seq (ac_toTail (n := 1) (cs := [.int .i64 0]) (G := []) (.s (.s (.s (.s (.s (.z)))))) (.s (.s (.s (.s (.s (.z)))))) ?_))
   refine ac_region (al_p (q_assign rfl) (al_end (aq_then ?_)))
   refine ac_block (ac_loop (β := Nat × Gr × List Value) (fun y => y.1 ≤ nf ∧ gok y.2.1 (begU (clL M (bgL M C) zs (x.1 : Int)) y.1).length 1 y.2.2 ∧ y.2.2 = (begU (clL M (bgL M C) zs (x.1 : Int)) y.1).map (Value.int .i64)) (fun y => [(2, (.slice F nf cf)), (3, (.pointer (some ⟨b1, 0, none⟩))), (6, (.pointer (some ⟨b3, 0, none⟩))), (7, (.int .i64 0)), (8, (.pointer (some ⟨b4, 0, none⟩))), (9, (.pointer (some ⟨b5, 0, none⟩))), (10, (.int .i64 x.2.1)), (11, (.int .i64 (x.1 : Int))), (12, (.slice (gA y.2.1) (begU (clL M (bgL M C) zs (x.1 : Int)) y.1).length (gC y.2.1))), (13, (.int .i64 (y.1 : Int))), (29, (.int .i64 (x.1 : Int))), (30, (.agg (machCells R M))), (31, (.int .i64 (cellsN M))), (35, (.slice (some ⟨b6, 0, none⟩) 1 1))]) (fun _ => _) (fun y => (b5, _) :: (b4, _) :: (b3, _) :: (b2, _) :: (b1, _) :: (gt y.2.1 y.2.2 ++ ([]))) (fun y => nf - y.1) (0, some (b6, 1, []), [.int .i64 0]) ⟨by simp, gok_one0 b6, rfl⟩ ⟨rfl, rfl, rfl, rfl, rfl, rfl, rfl, rfl, rfl, rfl, rfl, rfl, rfl, rfl, trivial⟩ (fun w9 hs => hs) (fun y hF2 => ?_))
   obtain ⟨hyl, hgk, hcs⟩ := hF2
   have hbl := begU_len (clL M (bgL M C) zs (x.1 : Int)) y.1
   refine ac_seq (ac_seq (ac_region ?_))
   refine al_p (q_move rfl) (al_p (q_move rfl) (al_p (q_lenS rfl Tryz.runUnderlying33) (al_p (q_lss rfl rfl) (al_end (aq_then ?_)))))
   refine ac_cond rfl (fun h3 => ?_) (fun h3 => ?_)
   ·have hyk : y.1 < nf := by have := of_decide_eq_true h3; omega
    obtain ⟨b_a, o_a, hA_a, hlt_a, hget_a⟩ := N_t.bg.isT.2 (by omega)
    have hx_a : (bgL M C)[y.1]? = some (backL M C (y.1 : Int)).1 := by rw [bgL_get (by omega)]
    obtain ⟨b_b, o_b, hA_b, hlt_b, hget_b⟩ := N_t.out.isT.2 (by omega)
    obtain ⟨rr, hrr⟩ : ∃ rr, rw_t[y.1]? = some rr := ⟨_, List.getElem?_eq_getElem (by rw [N_t.out.isT.1]; omega)⟩
    have N_c := N_t.row y.1 rr hrr
    obtain ⟨b_c, o_c, hA_c, hlt_c, hget_c⟩ := N_c.isT.2 (by omega)
    have hx_c : (respRow M (M.grid.nr * M.grid.nz).toNat y.1)[x.1]? = some (respL M (y.1 : Int) (x.1 : Int)).1 := by rw [respRow_get (by omega)]
    obtain ⟨b11, o11, hA1, hlt1, hget1⟩ := hF.2 (by omega)
    have hx1 := getD_get (l := zs) (d := ⟨0, 0⟩) (k := y.1) (by omega)
    have hcl : (clL M (bgL M C) zs (x.1 : Int)).getD y.1 ⟨0, 0⟩ = ⟨(allowL (zs.getD y.1 ⟨0, 0⟩).lo (zs.getD y.1 ⟨0, 0⟩).hi (backL M C (y.1 : Int)).1 (respL M (y.1 : Int) (x.1 : Int)).1).1, (allowL (zs.getD y.1 ⟨0, 0⟩).lo (zs.getD y.1 ⟨0, 0⟩).hi (backL M C (y.1 : Int)).1 (respL M (y.1 : Int) (x.1 : Int)).1).2⟩ := by rw [List.getD_eq_getElem?_getD, clL_get (by omega), Option.getD_some, clF_eq (by omega)]
    refine ac_skip (aq_then (ac_seq (ac_block ?_)))
    refine ac_cutU (β := Int × Int × Nat) (fun p => okAl (zs.getD y.1 ⟨0, 0⟩).lo (zs.getD y.1 ⟨0, 0⟩).hi (backL M C (y.1 : Int)).1 (respL M (y.1 : Int) (x.1 : Int)).1 = true → p.1 = (allowL (zs.getD y.1 ⟨0, 0⟩).lo (zs.getD y.1 ⟨0, 0⟩).hi (backL M C (y.1 : Int)).1 (respL M (y.1 : Int) (x.1 : Int)).1).1 ∧ p.2.1 = (allowL (zs.getD y.1 ⟨0, 0⟩).lo (zs.getD y.1 ⟨0, 0⟩).hi (backL M C (y.1 : Int)).1 (respL M (y.1 : Int) (x.1 : Int)).1).2) (fun p => [(2, (.slice F nf cf)), (3, (.pointer (some ⟨b1, 0, none⟩))), (6, (.pointer (some ⟨b3, 0, none⟩))), (7, (.int .i64 0)), (8, (.pointer (some ⟨b4, 0, none⟩))), (9, (.pointer (some ⟨b5, 0, none⟩))), (10, (.int .i64 x.2.1)), (11, (.int .i64 (x.1 : Int))), (12, (.slice (gA y.2.1) (begU (clL M (bgL M C) zs (x.1 : Int)) y.1).length (gC y.2.1))), (13, (.int .i64 (y.1 : Int))), (14, (.pointer (some ⟨p.2.2, 0, none⟩))), (15, (.bool (okAl (zs.getD y.1 ⟨0, 0⟩).lo (zs.getD y.1 ⟨0, 0⟩).hi (backL M C (y.1 : Int)).1 (respL M (y.1 : Int) (x.1 : Int)).1))), (29, (.int .i64 (x.1 : Int))), (30, (.agg (machCells R M))), (31, (.int .i64 (cellsN M))), (35, (.slice (some ⟨b6, 0, none⟩) 1 1)), (36, (.int .i64 (y.1 : Int))), (37, (.slice F nf cf)), (38, (.int .i64 (nf : Int)))]) (fun p L9 => (p.2.2, .cells [.int .i64 p.1, .int .i64 p.2.1]) :: L9) (fun X9 hX9 => ?_) (fun p hF9 => ?_)
    ·refine ac_draw 23 (by kernel_rfl) (by kernel_rfl) ?_
     refine ah_t 0 (fun w9 hs => hs) rfl rfl (by kernel_rfl) (q_fieldAddr 0 rfl Tryz.runUnderlying89 rfl Tryz.sizeOf30 (by decide) rfl) (ah_t 1 (fun w9 hs => hs) rfl rfl (by kernel_rfl) (q_load (i := 1) rfl rfl rfl Tryz.isAgg30) (ah_t 2 (fun w9 hs => hs) rfl rfl (by kernel_rfl) (q_move rfl) ?_))
     refine ah_t 3 (fun w9 hs => hs) rfl rfl (by kernel_rfl) (q_indexAddrA (i := y.1) (o_a + y.1 * 1 + 0) hA_a rfl rfl rfl (by omega) Tryz.runUnderlying30 Tryz.sizeOf3 rfl) (ah_t 4 (fun w9 hs => hs) rfl rfl (by kernel_rfl) (q_loadX rfl Tryz.isAgg3 (fun w9 hs => (hs.cellOf (.tail _ (.head _)) (N_t.bg.new _ _ hA_a) hlt_a (hget_a y.1 _ hx_a 0 _ rfl)))) ?_)
     refine ah_t 5 (fun w9 hs => hs) rfl rfl (by kernel_rfl) (q_fieldAddr 1 rfl Tryz.runUnderlying89 rfl Tryz.sizeOf87 (by decide) rfl) (ah_t 6 (fun w9 hs => hs) rfl rfl (by kernel_rfl) (q_load (i := 1) rfl rfl rfl Tryz.isAgg87) (ah_t 7 (fun w9 hs => hs) rfl rfl (by kernel_rfl) (q_move rfl) ?_))
     refine ah_t 8 (fun w9 hs => hs) rfl rfl (by kernel_rfl) (q_indexAddrA (i := y.1) (o_b + y.1 * 1 + 0) hA_b rfl rfl rfl (by omega) Tryz.runUnderlying87 Tryz.sizeOf30 rfl) (ah_t 9 (fun w9 hs => hs) rfl rfl (by kernel_rfl) (q_loadX rfl Tryz.isAgg30 (fun w9 hs => (hs.cellOf (.tail _ (.head _)) (N_t.out.new _ _ hA_b) hlt_b (hget_b y.1 _ hrr 0 _ rfl)))) (ah_t 10 (fun w9 hs => hs) rfl rfl (by kernel_rfl) (q_move rfl) ?_))
     refine ah_t 11 (fun w9 hs => hs) rfl rfl (by kernel_rfl) (q_indexAddrA (i := x.1) (o_c + x.1 * 1 + 0) hA_c rfl rfl rfl (by omega) Tryz.runUnderlying30 Tryz.sizeOf3 rfl) (ah_t 12 (fun w9 hs => hs) rfl rfl (by kernel_rfl) (q_loadX rfl Tryz.isAgg3 (fun w9 hs => (hs.cellOf (.tail _ (.head _)) (N_c.new _ _ hA_c) hlt_c (hget_c x.1 _ hx_c 0 _ rfl)))) (ah_t 13 (fun w9 hs => hs) rfl rfl (by kernel_rfl) (q_move rfl) (ah_t 14 (fun w9 hs => hs) rfl rfl (by kernel_rfl) (q_move rfl) ?_)))
     refine ah_t 15 (fun w9 hs => hs) rfl rfl (by kernel_rfl) (q_indexAddrA (i := y.1) (o11 + y.1 * 2 + 0) hA1 rfl rfl rfl (by omega) Tryz.runUnderlying33 Tryz.sizeOf67 rfl) (ah_t 16 (fun w9 hs => hs) rfl rfl (by kernel_rfl) (q_loadXs (SpanD.cells (zs.getD y.1 ⟨0, 0⟩)) rfl Tryz.isAgg67 Tryz.sizeOf67 (fun w9 hs j9 v9 h9 => by rw [addr_add]; exact (hs.below.cell (p := ⟨_, _, none⟩) hlt1).trans ((hget1 y.1 _ hx1) j9 v9 h9)) rfl) ?_)
     refine ah_two 17 21 rfl rfl  (by kernel_rfl) (fun hok1 hcl1 => ?_) (fun hok1 hcl1 => ?_)
     ·refine al_call Tryz.call27 (.cons rfl (.cons rfl (.cons rfl .nil))) rfl rfl (fun w4 hs4 => ?_)
      refine (rallowed4_any (zs.getD y.1 ⟨0, 0⟩).lo (zs.getD y.1 ⟨0, 0⟩).hi (backL M C (y.1 : Int)).1 (respL M (y.1 : Int) (x.1 : Int)).1 _ (hzs _ (List.mem_of_getElem? hx1)) (backL_bd M C _).1 (backL_bd M C _).2 (respL_bd M _ _).1 (respL_bd M _ _).2).mono ?_
      rintro e u4 ⟨xa, ya, rfl, ok_, hb_4⟩
      refine ⟨_, rfl, hb_4, ?_⟩
      clear hs4
      refine al_end (ah_back hok1 hcl1 (fun w9 hs => (hs.fewer 1 rfl)) ?_)
      refine ah_t 18 (fun w9 hs => (hs.fewer 1 rfl)) rfl rfl (by kernel_rfl) (q_move rfl) (ah_t 19 (fun w9 hs => (hs.fewer 1 rfl)) rfl rfl (by kernel_rfl) (q_extract rfl rfl) (ah_t 20 (fun w9 hs => (hs.fewer 1 rfl)) rfl rfl (by kernel_rfl) (q_extract rfl rfl) (ah_one 21 rfl (by kernel_rfl) (fun hok2 hcl2 => ?_))))
      refine al_new (fun b => .pointer (some ⟨b, 0, none⟩)) (r_alloc Tryz.zeroValue67 rfl) rfl rfl rfl ?_
      intro b7
      refine al_end (ah_back hok2 hcl2 (fun w9 hs => ((hs.fewer 1 rfl).tail 1 rfl)) ?_)
      refine ah_one 22 rfl (by kernel_rfl) (fun hok3 hcl3 => ?_)
      refine al_storeAll (i := 0) rfl rfl rfl rfl Tryz.sizeOf67 rfl rfl .k0 rfl (al_end (ah_back hok3 hcl3 (fun w9 hs => ((hs.fewer 1 rfl).tail 1 rfl)) ?_))
      refine ah_t 23 (fun w9 hs => ((hs.fewer 1 rfl).tail 1 rfl)) rfl rfl (by kernel_rfl) (q_assign rfl) (ah_done (by kernel_rfl) ?_)
      refine aq_then ?_
      exact aq_sub (hX9 ((xa, ya, b7)) (ok_)) ⟨rfl, rfl, rfl, rfl, rfl, rfl, rfl, rfl, rfl, rfl, rfl, rfl, rfl, rfl, rfl, rfl, rfl, rfl, rfl, trivial⟩ (fun w9 hs => (hs.fewer 1 rfl))
     ·refine al_new (fun b => .pointer (some ⟨b, 0, none⟩)) (r_alloc Tryz.zeroValue67 rfl) rfl rfl rfl ?_
      intro b8
      refine al_end (ah_back hok1 hcl1 (fun w9 hs => (hs.tail 1 rfl)) ?_)
      refine ah_one 17 rfl (by kernel_rfl) (fun hok4 hcl4 => ?_)
      refine al_call Tryz.call27 (.cons rfl (.cons rfl (.cons rfl .nil))) rfl rfl (fun w5 hs5 => ?_)
      refine (rallowed4_any (zs.getD y.1 ⟨0, 0⟩).lo (zs.getD y.1 ⟨0, 0⟩).hi (backL M C (y.1 : Int)).1 (respL M (y.1 : Int) (x.1 : Int)).1 _ (hzs _ (List.mem_of_getElem? hx1)) (backL_bd M C _).1 (backL_bd M C _).2 (respL_bd M _ _).1 (respL_bd M _ _).2).mono ?_
      rintro e u5 ⟨xa, ya, rfl, ok_, hb_5⟩
      refine ⟨_, rfl, hb_5, ?_⟩
      clear hs5
      refine al_end (ah_back hok4 hcl4 (fun w9 hs => ((hs.fewer 1 rfl).tail 1 rfl)) ?_)
      refine ah_t 18 (fun w9 hs => ((hs.fewer 1 rfl).tail 1 rfl)) rfl rfl (by kernel_rfl) (q_move rfl) (ah_t 19 (fun w9 hs => ((hs.fewer 1 rfl).tail 1 rfl)) rfl rfl (by kernel_rfl) (q_extract rfl rfl) (ah_t 20 (fun w9 hs => ((hs.fewer 1 rfl).tail 1 rfl)) rfl rfl (by kernel_rfl) (q_extract rfl rfl) (ah_one 22 rfl (by kernel_rfl) (fun hok5 hcl5 => ?_))))
      refine al_storeAll (i := 0) rfl rfl rfl rfl Tryz.sizeOf67 rfl rfl .k0 rfl (al_end (ah_back hok5 hcl5 (fun w9 hs => ((hs.fewer 1 rfl).tail 1 rfl)) ?_))
      refine ah_t 23 (fun w9 hs => ((hs.fewer 1 rfl).tail 1 rfl)) rfl rfl (by kernel_rfl) (q_assign rfl) (ah_done (by kernel_rfl) ?_)
      refine aq_then ?_
      exact aq_sub (hX9 ((xa, ya, b8)) (ok_)) ⟨rfl, rfl, rfl, rfl, rfl, rfl, rfl, rfl, rfl, rfl, rfl, rfl, rfl, rfl, rfl, rfl, rfl, rfl, rfl, trivial⟩ (fun w9 hs => (hs.fewer 1 rfl))
    ·have ok_ := hF9
     refine ac_seq (ac_region ?_)
     refine al_p (q_move rfl) (al_end (aq_then ?_))
     refine ac_cond rfl (fun h4 => ?_) (fun h4 => ?_)
     ·obtain ⟨hxa, hya⟩ := ok_ h4
      have hct : begU (clL M (bgL M C) zs (x.1 : Int)) (y.1 + 1) = (begU (clL M (bgL M C) zs (x.1 : Int)) y.1) ++ [p.1] := by rw [begU_yes (by rw [hcl]; exact (okAl_vld _ _ _ _).symm.trans h4), hcl, hxa]
      refine ac_region (al_p (q_move rfl) ?_)
      refine al_p (q_fieldAddr 0 rfl Tryz.runUnderlying67 rfl Tryz.sizeOf3 (by decide) rfl) (al_p (q_load (i := 0) rfl rfl rfl Tryz.isAgg3) (al_new (fun b => .slice (some ⟨b, 0, none⟩) 1 1) (r_buildSlice (.cons rfl .nil) (cai_bs_int_1_0_ _ rfl)) rfl rfl rfl ?_))
      intro b9
      refine al_grow (z := 1) (bytes := 8) (zv := (.int .i64 0)) (o := y.2.1) (cs := y.2.2) (vs := [.int .i64 p.1]) rfl rfl (.s (.s (.s (.s (.s (.s (.s (.z)))))))) hgk (Sor.box (j := 0) rfl rfl rfl) Tryz.underlying30 (by kernel_rfl) rfl (by omega) (by decide) rfl rfl (fun o_1 g_1 => ?_)
      refine ⟨_, (.s (.s (.s (.s (.s (.s (.s (.z)))))))), ?_⟩
      refine al_p (q_assign rfl) (al_end (aq_inN (aq_then (ac_region ?_))))
      refine al_p (q_move rfl) ?_
      refine al_p (q_add rfl rfl (by omega)) (al_p (q_assign rfl) (al_end (aq_then ?_)))
      skip
      refine aq_round ((y.1 + 1, o_1, (y.2.2 ++ [.int .i64 p.1]))) (by simp only; omega) ⟨by simp only; omega, by simp only; rw [hct, List.length_append]; exact g_1, by simp only; rw [hct, hcs, List.map_append]; rfl⟩ ⟨rfl, rfl, rfl, rfl, rfl, rfl, rfl, rfl, (by simp only; rw [hct]; first | rfl | (rw [List.length_append]; rfl)), rfl, rfl, rfl, rfl, rfl, trivial⟩ (fun w9 hs => (hs.tail 2 rfl))
     ·have hct : begU (clL M (bgL M C) zs (x.1 : Int)) (y.1 + 1) = (begU (clL M (bgL M C) zs (x.1 : Int)) y.1) := begU_no (by rw [hcl]; exact (okAl_vld _ _ _ _).symm.trans h4)
      refine ac_skip (aq_inN (aq_then (ac_region (al_p (q_move rfl) ?_))))
      refine al_p (q_add rfl rfl (by omega)) (al_p (q_assign rfl) (al_end (aq_then ?_)))
      skip
      refine aq_round ((y.1 + 1, y.2.1, y.2.2)) (by simp only; omega) ⟨by simp only; omega, by simp only; rw [hct]; exact hgk, by simp only; rw [hct]; exact hcs⟩ ⟨rfl, rfl, rfl, rfl, rfl, rfl, rfl, rfl, (by simp only; rw [hct]; first | rfl | (rw [List.length_append]; rfl)), rfl, rfl, rfl, rfl, rfl, trivial⟩ (fun w9 hs => (hs.tail 1 rfl))
   ·have hye : y.1 = nf := by have := of_decide_eq_false h3; omega
    obtain ⟨b_y, c_y, sp_y, hOy⟩ := hgk.some (by unfold begU; simp)
    have hAy : gA y.2.1 = some ⟨b_y, 0, none⟩ := by rw [hOy]; rfl
    refine ac_exit (aq_thenE (aq_thenE (aq_hit (aq_then ?_))))
    refine ac_seq (ac_region ?_)
    refine al_p (q_assign rfl) (al_end (aq_then ?_))
    refine ac_block (ac_loop (β := Nat × Bst) (fun v => v.1 ≤ (begU (clL M (bgL M C) zs (x.1 : Int)) y.1).length ∧ v.2 = ((begU (clL M (bgL M C) zs (x.1 : Int)) y.1).take v.1).foldl (accS (cntA M C zs (x.1 : Int)) (x.1 : Int)) x.2) (fun v => [(2, (.slice F nf cf)), (3, (.pointer (some ⟨b1, 0, none⟩))), (6, (.pointer (some ⟨b3, 0, none⟩))), (7, (.int .i64 0)), (8, (.pointer (some ⟨b4, 0, none⟩))), (9, (.pointer (some ⟨b5, 0, none⟩))), (10, (.int .i64 v.2.1)), (11, (.int .i64 (x.1 : Int))), (12, (.slice (gA y.2.1) (begU (clL M (bgL M C) zs (x.1 : Int)) y.1).length (gC y.2.1))), (13, (.int .i64 (y.1 : Int))), (16, (.int .i64 (v.1 : Int))), (29, (.int .i64 (x.1 : Int))), (30, (.agg (machCells R M))), (31, (.int .i64 (cellsN M))), (35, (.slice (some ⟨b6, 0, none⟩) 1 1)), (36, (.int .i64 (y.1 : Int))), (37, (.slice F nf cf)), (38, (.int .i64 (nf : Int)))]) (fun _ => _) (fun v => (b5, .cells [.int .i64 v.2.2.1, .int .i64 v.2.2.2, .slice none 0 0]) :: (b4, _) :: (b3, _) :: (b2, _) :: (b1, _) :: (gt y.2.1 y.2.2 ++ ([]))) (fun v => (begU (clL M (bgL M C) zs (x.1 : Int)) y.1).length - v.1) (0, x.2) ⟨by simp, by simp⟩ ⟨rfl, rfl, rfl, rfl, rfl, rfl, rfl, rfl, rfl, rfl, rfl, rfl, rfl, rfl, rfl, rfl, rfl, rfl, trivial⟩ (fun w9 hs => hs) (fun v hF3 => ?_))
    obtain ⟨hvn, hv2⟩ := hF3
    refine ac_seq (ac_seq (ac_region ?_))
    refine al_p (q_move rfl) (al_p (q_move rfl) (al_p (q_lenS rfl Tryz.runUnderlying30) (al_p (q_lss rfl rfl) (al_end (aq_then ?_)))))
    refine aq_keepL [2, 3, 6, 7, 8, 9, 10, 11, 12, 13, 16, 29, 30, 31, 35, 36, 37, 38, 69, 70, 71, 72] (.cons rfl (.cons rfl (.cons rfl (.cons rfl (.cons rfl (.cons rfl (.cons rfl (.cons rfl (.cons rfl (.cons rfl (.cons rfl (.cons rfl (.cons rfl (.cons rfl (.cons rfl (.cons rfl (.cons rfl (.cons rfl (.cons rfl (.cons rfl (.cons rfl (.cons rfl .nil)))))))))))))))))))))) ?_
    refine ac_cond rfl (fun h5 => ?_) (fun h5 => ?_)
    ·have hvl : v.1 < (begU (clL M (bgL M C) zs (x.1 : Int)) y.1).length := by have := of_decide_eq_true h5; omega
     obtain ⟨cu, hcu⟩ : ∃ cu, (begU (clL M (bgL M C) zs (x.1 : Int)) y.1)[v.1]? = some cu := ⟨_, List.getElem?_eq_getElem hvl⟩
     have hgy : y.2.2[v.1]? = some (.int .i64 cu) := by rw [hcs, List.getElem?_map, hcu]; rfl
     have hcm := triA_in (M := M) (C := C) (zs := zs) (i := (x.1 : Int)) (x := cu) (by unfold triA; rw [clL_len, ← hzl, hnz, ← hye]; exact List.mem_of_getElem? hcu)
     refine ac_skip (aq_then (ac_seq (ac_block (ac_seq ?_))))
     refine ac_draw 9 (by kernel_rfl) (by kernel_rfl) ?_
     refine ah_t 0 (fun w9 hs => hs) rfl rfl (by kernel_rfl) (q_loadAll (i := 1) rfl rfl Tryz.isAgg89 Tryz.sizeOf89 rfl) (ah_t 1 (fun w9 hs => hs) rfl rfl (by kernel_rfl) (q_move rfl) (ah_t 2 (fun w9 hs => hs) rfl rfl (by kernel_rfl) (q_move rfl) (ah_t 3 (fun w9 hs => hs) rfl rfl (by kernel_rfl) (q_move rfl) (ah_t 4 (fun w9 hs => hs) rfl rfl (by kernel_rfl) (q_move rfl) ?_))))
     refine ah_t 5 (fun w9 hs => hs) rfl rfl (by kernel_rfl) (q_indexAddrA (i := v.1) (v.1) hAy rfl rfl rfl hvl Tryz.runUnderlying30 Tryz.sizeOf3 (by omega)) (ah_t 6 (fun w9 hs => hs) rfl rfl (by kernel_rfl) (q_loadX rfl Tryz.isAgg3 (fun w9 hs => hs.cellG hOy (.s (.s (.s (.s (.s (.z)))))) hgy)) (ah_one 7 rfl (by kernel_rfl) (fun hok6 hcl6 => ?_)))
     refine al_call Tryz.call28 (.cons rfl (.cons rfl (.cons rfl (.cons rfl .nil)))) rfl rfl (fun w6 hs6 => ?_)
     have hz9_l := hs6.below.size
     refine (ragree4_any R M C A_t B_t F c_t d_t nf cf rw_t zs (x.1 : Int) cu _ (hM.below hs6.below) (hF.below hs6.below) (hs6.tab (.tail _ (.head _)) N_t) hv.check hzl hzs (by omega) (by omega) (by omega) (by omega)).mono ?_
     rintro e u6 ⟨A_l, n_l, c_l, rfl, N_l, hb_6⟩
     have hnl : (n_l : Int) = cntA M C zs (x.1 : Int) cu := by unfold cntA; rw [N_l.isT.1]
     refine ⟨_, rfl, hb_6, ?_⟩
     clear hs6
     refine al_end (ah_back hok6 hcl6 (fun w9 hs => (hs.fewer 1 rfl)) ?_)
     refine ah_t 8 (fun w9 hs => (hs.fewer 1 rfl)) rfl rfl (by kernel_rfl) (q_lenS rfl Tryz.runUnderlying30) (ah_t 9 (fun w9 hs => (hs.fewer 1 rfl)) rfl rfl (by kernel_rfl) (q_assign rfl) (ah_done (by kernel_rfl) ?_))
     refine aq_then (ac_seq (ac_draw 22 (by kernel_rfl) (by kernel_rfl) ?_))
     refine ah_t 0 (fun w9 hs => hs) rfl rfl (by kernel_rfl) (q_move rfl) (ah_t 1 (fun w9 hs => hs) rfl rfl (by kernel_rfl) (q_move rfl) (ah_t 2 (fun w9 hs => hs) rfl rfl (by kernel_rfl) (q_gtr rfl rfl) (ah_t 3 (fun w9 hs => hs) rfl rfl (by kernel_rfl) (q_move rfl) ?_)))
     refine ah_split 87 rfl (fun hb1 => ?_) (fun hb1 => ?_)
     ·have q87 := of_decide_eq_true hb1
      have hst := accS_yes (cnt := cntA M C zs (x.1 : Int)) (i := (x.1 : Int)) (s := v.2) hnl (Or.inl (by omega))
      refine ah_s 4 (fun w9 hs => hs) rfl rfl (by kernel_rfl) (ah_s 5 (fun w9 hs => hs) rfl rfl (by kernel_rfl) (ah_s 6 (fun w9 hs => hs) rfl rfl (by kernel_rfl) (ah_s 7 (fun w9 hs => hs) rfl rfl (by kernel_rfl) (ah_s 8 (fun w9 hs => hs) rfl rfl (by kernel_rfl) ?_))))
      refine ah_s 9 (fun w9 hs => hs) rfl rfl (by kernel_rfl) (ah_s 10 (fun w9 hs => hs) rfl rfl (by kernel_rfl) (ah_s 11 (fun w9 hs => hs) rfl rfl (by kernel_rfl) (ah_s 12 (fun w9 hs => hs) rfl rfl (by kernel_rfl) (ah_s 13 (fun w9 hs => hs) rfl rfl (by kernel_rfl) ?_))))
      refine ah_s 14 (fun w9 hs => hs) rfl rfl (by kernel_rfl) (ah_s 15 (fun w9 hs => hs) rfl rfl (by kernel_rfl) (ah_s 16 (fun w9 hs => hs) rfl rfl (by kernel_rfl) (ah_s 17 (fun w9 hs => hs) rfl rfl (by kernel_rfl) (ah_s 18 (fun w9 hs => hs) rfl rfl (by kernel_rfl) ?_))))
      refine ah_s 19 (fun w9 hs => hs) rfl rfl (by kernel_rfl) (ah_s 20 (fun w9 hs => hs) rfl rfl (by kernel_rfl) (ah_s 21 (fun w9 hs => hs) rfl rfl (by kernel_rfl) (ah_t 22 (fun w9 hs => hs) rfl rfl (by kernel_rfl) (q_pickT rfl rfl) (ah_done (by kernel_rfl) ?_))))
      refine aq_then (ac_condT rfl (ac_seq (ac_region ?_)))
      refine al_p (q_move rfl) (al_p (q_assign rfl) (al_end (aq_then ?_)))
      refine ac_region (al_p (q_move rfl) (al_p (q_move rfl) (al_p (q_move rfl) ?_)))
      refine al_p (q_indexAddrA (i := v.1) (v.1) hAy rfl rfl rfl hvl Tryz.runUnderlying30 Tryz.sizeOf3 (by omega)) (al_p (q_loadX rfl Tryz.isAgg3 (fun w9 hs => hs.cellG hOy (.s (.s (.s (.s (.s (.z)))))) hgy)) (al_p (q_build (.cons rfl (.cons rfl .nil)) (cai_bl_apiBlame_0_1 _ _ rfl rfl)) (al_storeAll (i := 0) rfl rfl rfl rfl Tryz.sizeOf39 rfl rfl .k0 rfl (al_end ?_))))
      refine aq_inN (aq_then (ac_region (al_p (q_move rfl) ?_)))
      refine al_p (q_add rfl rfl (by omega)) (al_p (q_assign rfl) (al_end (aq_then ?_)))
      skip
      refine aq_round ((v.1 + 1, ((n_l : Int), (x.1 : Int), cu))) (by simp only; omega) ⟨by simp only; omega, by simp only; rw [accS_next hv2 hcu, hst]⟩ ⟨rfl, rfl, rfl, rfl, rfl, rfl, rfl, rfl, rfl, rfl, rfl, rfl, rfl, rfl, rfl, rfl, rfl, rfl, trivial⟩ (fun w9 hs => (hs.fewer 1 rfl))
     ·have q87 := of_decide_eq_false hb1
      refine ah_t 4 (fun w9 hs => hs) rfl rfl (by kernel_rfl) (q_move rfl) (ah_t 5 (fun w9 hs => hs) rfl rfl (by kernel_rfl) (q_move rfl) (ah_t 6 (fun w9 hs => hs) rfl rfl (by kernel_rfl) (q_eql rfl rfl) (ah_t 7 (fun w9 hs => hs) rfl rfl (by kernel_rfl) (q_move rfl) ?_)))
      refine ah_split 91 rfl (fun hb2 => ?_) (fun hb2 => ?_)
      ·have q91 := of_decide_eq_true hb2
       refine ah_t 8 (fun w9 hs => hs) rfl rfl (by kernel_rfl) (q_fieldAddr 0 rfl Tryz.runUnderlying39 rfl Tryz.sizeOf3 (by decide) rfl) (ah_t 9 (fun w9 hs => hs) rfl rfl (by kernel_rfl) (q_load (i := 0) rfl rfl rfl Tryz.isAgg3) (ah_t 10 (fun w9 hs => hs) rfl rfl (by kernel_rfl) (q_move rfl) (ah_t 11 (fun w9 hs => hs) rfl rfl (by kernel_rfl) (q_eql rfl rfl) (ah_t 12 (fun w9 hs => hs) rfl rfl (by kernel_rfl) (q_pickT rfl rfl) ?_))))
       refine ah_t 13 (fun w9 hs => hs) rfl rfl (by kernel_rfl) (q_move rfl) ?_
       refine ah_split 97 rfl (fun hb3 => ?_) (fun hb3 => ?_)
       ·have q97 := of_decide_eq_true hb3
        refine ah_t 14 (fun w9 hs => hs) rfl rfl (by kernel_rfl) (q_move rfl) (ah_t 15 (fun w9 hs => hs) rfl rfl (by kernel_rfl) (q_move rfl) ?_)
        refine ah_t 16 (fun w9 hs => hs) rfl rfl (by kernel_rfl) (q_indexAddrA (i := v.1) (v.1) hAy rfl rfl rfl hvl Tryz.runUnderlying30 Tryz.sizeOf3 (by omega)) (ah_t 17 (fun w9 hs => hs) rfl rfl (by kernel_rfl) (q_loadX rfl Tryz.isAgg3 (fun w9 hs => hs.cellG hOy (.s (.s (.s (.s (.s (.z)))))) hgy)) ?_)
        refine ah_t 18 (fun w9 hs => hs) rfl rfl (by kernel_rfl) (q_fieldAddr 1 rfl Tryz.runUnderlying39 rfl Tryz.sizeOf3 (by decide) rfl) (ah_t 19 (fun w9 hs => hs) rfl rfl (by kernel_rfl) (q_load (i := 0) rfl rfl rfl Tryz.isAgg3) (ah_t 20 (fun w9 hs => hs) rfl rfl (by kernel_rfl) (q_lss rfl rfl) (ah_t 21 (fun w9 hs => hs) rfl rfl (by kernel_rfl) (q_pickT rfl rfl) (ah_t 22 (fun w9 hs => hs) rfl rfl (by kernel_rfl) (q_pickF rfl rfl) ?_))))
        refine ah_done (by kernel_rfl) ?_
        refine aq_then ?_
        refine ac_cond rfl (fun h6 => ?_) (fun h6 => ?_)
        ·have q6 := of_decide_eq_true h6
         have hst := accS_yes (cnt := cntA M C zs (x.1 : Int)) (i := (x.1 : Int)) (s := v.2) hnl (Or.inr ⟨by omega, q97, q6⟩)
         refine ac_seq (ac_region ?_)
         refine al_p (q_move rfl) (al_p (q_assign rfl) (al_end (aq_then ?_)))
         refine ac_region (al_p (q_move rfl) (al_p (q_move rfl) (al_p (q_move rfl) ?_)))
         refine al_p (q_indexAddrA (i := v.1) (v.1) hAy rfl rfl rfl hvl Tryz.runUnderlying30 Tryz.sizeOf3 (by omega)) (al_p (q_loadX rfl Tryz.isAgg3 (fun w9 hs => hs.cellG hOy (.s (.s (.s (.s (.s (.z)))))) hgy)) (al_p (q_build (.cons rfl (.cons rfl .nil)) (cai_bl_apiBlame_0_1 _ _ rfl rfl)) (al_storeAll (i := 0) rfl rfl rfl rfl Tryz.sizeOf39 rfl rfl .k0 rfl (al_end ?_))))
         refine aq_inN (aq_then (ac_region (al_p (q_move rfl) ?_)))
         refine al_p (q_add rfl rfl (by omega)) (al_p (q_assign rfl) (al_end (aq_then ?_)))
         skip
         refine aq_round ((v.1 + 1, ((n_l : Int), (x.1 : Int), cu))) (by simp only; omega) ⟨by simp only; omega, by simp only; rw [accS_next hv2 hcu, hst]⟩ ⟨rfl, rfl, rfl, rfl, rfl, rfl, rfl, rfl, rfl, rfl, rfl, rfl, rfl, rfl, rfl, rfl, rfl, rfl, trivial⟩ (fun w9 hs => (hs.fewer 1 rfl))
        ·have q6 := of_decide_eq_false h6
         have hst := accS_no (cnt := cntA M C zs (x.1 : Int)) (i := (x.1 : Int)) (x := cu) (s := v.2) (fun h => by rcases h with h | ⟨_, _, h⟩ <;> omega)
         refine ac_skip (aq_inN (aq_then (ac_region (al_p (q_move rfl) ?_))))
         refine al_p (q_add rfl rfl (by omega)) (al_p (q_assign rfl) (al_end (aq_then ?_)))
         skip
         refine aq_round ((v.1 + 1, v.2)) (by simp only; omega) ⟨by simp only; omega, by simp only; rw [accS_next hv2 hcu, hst]⟩ ⟨rfl, rfl, rfl, rfl, rfl, rfl, rfl, rfl, rfl, rfl, rfl, rfl, rfl, rfl, rfl, rfl, rfl, rfl, trivial⟩ (fun w9 hs => (hs.fewer 1 rfl))
       ·have q97 := of_decide_eq_false hb3
        have hst := accS_no (cnt := cntA M C zs (x.1 : Int)) (i := (x.1 : Int)) (x := cu) (s := v.2) (fun h => h.elim (fun h => by omega) (fun h => q97 h.2.1))
        refine ah_s 14 (fun w9 hs => hs) rfl rfl (by kernel_rfl) (ah_s 15 (fun w9 hs => hs) rfl rfl (by kernel_rfl) (ah_s 16 (fun w9 hs => hs) rfl rfl (by kernel_rfl) (ah_s 17 (fun w9 hs => hs) rfl rfl (by kernel_rfl) (ah_s 18 (fun w9 hs => hs) rfl rfl (by kernel_rfl) ?_))))
        refine ah_s 19 (fun w9 hs => hs) rfl rfl (by kernel_rfl) (ah_s 20 (fun w9 hs => hs) rfl rfl (by kernel_rfl) (ah_t 21 (fun w9 hs => hs) rfl rfl (by kernel_rfl) (q_pickF rfl rfl) (ah_t 22 (fun w9 hs => hs) rfl rfl (by kernel_rfl) (q_pickF rfl rfl) (ah_done (by kernel_rfl) ?_))))
        refine aq_then (aq_keepL [2, 3, 6, 7, 8, 9, 10, 11, 12, 13, 16, 17, 29, 30, 31, 35, 36, 37, 38, 69, 70, 71, 72, 75, 76, 77, 78, 79, 80, 81, 82, 83, 84, 85, 86, 87, 88, 89, 90, 91, 92, 93, 94, 95, 96, 97, 98, 99, 100, 101, 102, 103, 104, 105, 106] (.cons rfl (.cons rfl (.cons rfl (.cons rfl (.cons rfl (.cons rfl (.cons rfl (.cons rfl (.cons rfl (.cons rfl (.cons rfl (.cons rfl (.cons rfl (.cons rfl (.cons rfl (.cons rfl (.cons rfl (.cons rfl (.cons rfl (.cons rfl (.cons rfl (.cons rfl (.cons rfl (.cons rfl (.cons rfl (.cons rfl (.cons rfl (.cons rfl (.cons rfl (.cons rfl (.cons rfl (.cons rfl (.cons rfl (.cons rfl (.cons rfl (.cons rfl (.cons rfl (.cons rfl (.cons rfl (.cons rfl (.cons rfl (.cons rfl (.cons rfl (.cons rfl (.cons rfl (.cons rfl (.cons rfl (.cons rfl (.cons rfl (.cons rfl (.cons rfl (.cons rfl (.cons rfl (.cons rfl (.cons rfl .nil))))))))))))))))))))))))))))))))))))))))))))))))))))))) ?_)
        refine ac_condF rfl (ac_skip (aq_inN (aq_then (ac_region ?_))))
        refine al_p (q_move rfl) ?_
        refine al_p (q_add rfl rfl (by omega)) (al_p (q_assign rfl) (al_end (aq_then ?_)))
        skip
        refine aq_round ((v.1 + 1, v.2)) (by simp only; omega) ⟨by simp only; omega, by simp only; rw [accS_next hv2 hcu, hst]⟩ ⟨rfl, rfl, rfl, rfl, rfl, rfl, rfl, rfl, rfl, rfl, rfl, rfl, rfl, rfl, rfl, rfl, rfl, rfl, trivial⟩ (fun w9 hs => (hs.fewer 1 rfl))
      ·have q91 := of_decide_eq_false hb2
       have hst := accS_no (cnt := cntA M C zs (x.1 : Int)) (i := (x.1 : Int)) (x := cu) (s := v.2) (fun h => by rcases h with h | ⟨h, _, _⟩ <;> omega)
       refine ah_s 8 (fun w9 hs => hs) rfl rfl (by kernel_rfl) (ah_s 9 (fun w9 hs => hs) rfl rfl (by kernel_rfl) (ah_s 10 (fun w9 hs => hs) rfl rfl (by kernel_rfl) (ah_s 11 (fun w9 hs => hs) rfl rfl (by kernel_rfl) (ah_t 12 (fun w9 hs => hs) rfl rfl (by kernel_rfl) (q_pickF rfl rfl) ?_))))
       refine ah_t 13 (fun w9 hs => hs) rfl rfl (by kernel_rfl) (q_move rfl) (ah_s 14 (fun w9 hs => hs) rfl rfl (by kernel_rfl) (ah_s 15 (fun w9 hs => hs) rfl rfl (by kernel_rfl) (ah_s 16 (fun w9 hs => hs) rfl rfl (by kernel_rfl) (ah_s 17 (fun w9 hs => hs) rfl rfl (by kernel_rfl) ?_))))
       refine ah_s 18 (fun w9 hs => hs) rfl rfl (by kernel_rfl) (ah_s 19 (fun w9 hs => hs) rfl rfl (by kernel_rfl) (ah_s 20 (fun w9 hs => hs) rfl rfl (by kernel_rfl) (ah_t 21 (fun w9 hs => hs) rfl rfl (by kernel_rfl) (q_pickF rfl rfl) (ah_t 22 (fun w9 hs => hs) rfl rfl (by kernel_rfl) (q_pickF rfl rfl) ?_))))
       refine ah_done (by kernel_rfl) ?_
       refine aq_then (ac_condF rfl (ac_skip (aq_inN (aq_then ?_))))
       refine ac_region (al_p (q_move rfl) ?_)
       refine al_p (q_add rfl rfl (by omega)) (al_p (q_assign rfl) (al_end (aq_then ?_)))
       skip
       refine aq_round ((v.1 + 1, v.2)) (by simp only; omega) ⟨by simp only; omega, by simp only; rw [accS_next hv2 hcu, hst]⟩ ⟨rfl, rfl, rfl, rfl, rfl, rfl, rfl, rfl, rfl, rfl, rfl, rfl, rfl, rfl, rfl, rfl, rfl, rfl, trivial⟩ (fun w9 hs => (hs.fewer 1 rfl))
    ·have hve : v.1 = (begU (clL M (bgL M C) zs (x.1 : Int)) y.1).length := by have := of_decide_eq_false h5; omega
     refine ac_exit (aq_thenE (aq_thenE (aq_hit (aq_inN ?_))))
     refine aq_then (ac_region (al_p (q_move rfl) ?_))
     refine al_p (q_add rfl rfl (by omega)) (al_p (q_assign rfl) (al_end (aq_then ?_)))
     skip
     refine aq_round ((x.1 + 1, v.2)) (by simp only; omega) ⟨by simp only; omega, by simp only; rw [hv2, List.take_of_length_le (by omega), hx2]; unfold triA; rw [show y.1 = (clL M (bgL M C) zs (x.1 : Int)).length by rw [clL_len]; omega]; rfl⟩ ⟨rfl, rfl, rfl, rfl, rfl, rfl, rfl, rfl, trivial⟩ (fun w9 hs => ((hs.fewer 1 rfl).front (.s (.s (.s (.s (.s .z)))))))
  ·have hxe : x.1 = (M.grid.nr * M.grid.nz).toNat := by have := of_decide_eq_false h2; omega
   have hS : x.2 = accL M C zs := by rw [hx2]; unfold accL; rw [show C.plasma.length = x.1 by omega]
   obtain ⟨i9, x9, hi9, h09, h19, e9⟩ := accL_in (M := M) (C := C) (zs := zs) (plasma_pos he)
   have e91 : x.2.2.1 = (i9 : Int) := by rw [hS, e9]
   have e92 : x.2.2.2 = x9 := by rw [hS, e9]
   refine ac_exit (aq_thenE (aq_thenE (aq_hit (aq_then ?_))))
   refine ac_seq (ac_region ?_)
   refine al_p (q_loadAll (i := 1) rfl rfl Tryz.isAgg89 Tryz.sizeOf89 rfl) (al_p (q_move rfl) ?_)
   refine al_p (q_fieldAddr 0 rfl Tryz.runUnderlying39 rfl Tryz.sizeOf3 (by decide) rfl) (al_p (q_load (i := 0) rfl rfl rfl Tryz.isAgg3) ?_)
   refine al_p (q_fieldAddr 1 rfl Tryz.runUnderlying39 rfl Tryz.sizeOf3 (by decide) rfl) (al_p (q_load (i := 0) rfl rfl rfl Tryz.isAgg3) (al_call Tryz.call28 (.cons rfl (.cons rfl (.cons rfl (.cons rfl .nil)))) rfl rfl (fun w7 hs7 => ?_)))
   have hz9_k := hs7.below.size
   refine (ragree4_any R M C A_t B_t F c_t d_t nf cf rw_t zs x.2.2.1 x.2.2.2 _ (hM.below hs7.below) (hF.below hs7.below) (hs7.tab (.tail _ (.head _)) N_t) hv.check hzl hzs (by omega) (by omega) (by omega) (by omega)).mono ?_
   rintro e u7 ⟨A_k, n_k, c_k, rfl, N_k, hb_7⟩
   have hIk := N_k.isT
   have hNk := N_k.new
   have hLk := N_k.le
   refine ⟨_, rfl, hb_7, ?_⟩
   clear hs7
   refine al_p (q_assign rfl) (al_end (aq_then ?_))
   refine ac_seq (ac_seq (ac_region ?_))
   refine al_p (q_assign rfl) (al_end (aq_then ?_))
   refine ac_block ?_
   refine ac_loop (β := LyS) (fun u => u.k ≤ nf ∧ gok u.o (lyU (clL M (bgL M C) zs x.2.2.1) x.2.2.2 u.k).length 1 u.cs ∧ u.cs = lyV (clL M (bgL M C) zs x.2.2.1) x.2.2.2 u.k ∧ IsT 1 intCells u7 u.A u.n ((agL (clL M (bgL M C) zs x.2.2.1) x.2.2.2).drop (agC (clL M (bgL M C) zs x.2.2.1) x.2.2.2 u.k)) ∧ (∀ b o, u.A = some ⟨b, o, none⟩ → w7.heap.size ≤ b) ∧ (u.n ≤ u.c ∧ u.c ≤ 9223372036854775807)) (fun u => [(2, (.slice F nf cf)), (6, (.pointer (some ⟨b3, 0, none⟩))), (7, (.int .i64 0)), (9, (.pointer (some ⟨b5, 0, none⟩))), (18, (.slice u.A u.n u.c)), (19, (.int .i64 (u.k : Int)))]) (fun _ => _) (fun u => (b5, .cells [.int .i64 x.2.2.1, .int .i64 x.2.2.2, .slice (gA u.o) (lyU (clL M (bgL M C) zs x.2.2.1) x.2.2.2 u.k).length (gC u.o)]) :: (b4, _) :: (b3, _) :: (b2, _) :: (b1, _) :: (gt u.o u.cs ++ ([]))) (fun u => nf - u.k) ⟨0, none, [], A_k, n_k, c_k⟩ ⟨by simp, gok.none 1, rfl, hIk, hNk, hLk⟩ ⟨rfl, rfl, rfl, rfl, rfl, rfl, trivial⟩ (fun w9 hs => (by rw [show gt none [] = [] from rfl, List.nil_append]; exact hs)) (fun u hF4 => ?_)
   obtain ⟨hul, hgu, hcu4, hIu, hnu, hLu⟩ := hF4
   have hun := lyU_len (clL M (bgL M C) zs x.2.2.1) x.2.2.2 u.k
   refine ac_seq (ac_seq (ac_region ?_))
   refine al_p (q_move rfl) (al_p (q_move rfl) (al_p (q_lenS rfl Tryz.runUnderlying33) (al_p (q_lss rfl rfl) (al_end (aq_then ?_)))))
   refine ac_cond rfl (fun h7 => ?_) (fun h7 => ?_)
   ·have hul2 : u.k < nf := by have := of_decide_eq_true h7; omega
    refine ac_skip (aq_then (ac_seq (ac_block (ac_seq (ac_region ?_)))))
    refine al_p (q_move rfl) (al_p (q_lenS rfl Tryz.runUnderlying30) (al_p (q_gtr rfl rfl) (al_p (q_move rfl) ?_)))
    refine aq_split 130 rfl (fun hb4 => ?_) (fun hb4 => ?_)
    ·have q130 := of_decide_eq_true hb4
     obtain ⟨b_k, o_k, hA_k, hlt_k, hget_k⟩ := hIu.2 (by omega)
     obtain ⟨v0, hx0⟩ : ∃ v0, ((agL (clL M (bgL M C) zs x.2.2.1) x.2.2.2).drop (agC (clL M (bgL M C) zs x.2.2.1) x.2.2.2 u.k))[0]? = some v0 := ⟨_, List.getElem?_eq_getElem (by rw [hIu.1]; omega)⟩
     refine al_p (q_move rfl) ?_
     refine al_p (q_indexAddrA (i := 0) (o_k + 0 * 1 + 0) hA_k rfl rfl rfl (by omega) Tryz.runUnderlying30 Tryz.sizeOf3 rfl) (al_p (q_loadX rfl Tryz.isAgg3 (fun w9 hs => (hs.cellOf (.head _) (hnu _ _ hA_k) hlt_k (hget_k 0 _ hx0 0 _ rfl)))) (al_p (q_move rfl) (al_p (q_eql rfl rfl) (al_p (q_pickT rfl rfl) ?_))))
     refine al_end (aq_then ?_)
     refine ac_cond rfl (fun h8 => ?_) (fun h8 => ?_)
     ·have q8 := of_decide_eq_true h8
      obtain ⟨hl1, hl2, hl3⟩ := (ly_step (clL M (bgL M C) zs x.2.2.1) x.2.2.2 (k := u.k) (by rw [clL_len]; omega)).resolve_right (fun h => h.1 ((by rw [List.getElem?_drop] at hx0; simpa using hx0 : (agL (clL M (bgL M C) zs x.2.2.1) x.2.2.2)[agC (clL M (bgL M C) zs x.2.2.1) x.2.2.2 u.k]? = some v0).trans (by rw [q8])))
      refine ac_region (al_p (q_move rfl) ?_)
      refine al_p (q_fromE (lo := 1) rfl rfl rfl (by omega) Tryz.underlying30 Tryz.sizeOf3) (al_p (q_assign rfl) (al_end (aq_inN (aq_then ?_))))
      refine ac_region (al_p (q_move rfl) ?_)
      refine al_p (q_add rfl rfl (by omega)) (al_p (q_assign rfl) (al_end (aq_then ?_)))
      skip
      refine aq_round (⟨u.k + 1, u.o, u.cs, (if u.c = 1 then u.A else u.A.map (·.add (1 * 1))), (u.n - 1), (u.c - 1)⟩) (by simp only; omega) ⟨by simp only; omega, by simp only; rw [hl3]; exact hgu, by simp only; unfold lyV; rw [hl3]; exact hcu4, by simp only; rw [hl2, ← List.drop_drop]; exact hIu.from (by omega) hLu.1, by simp only; exact new_from hA_k (hnu _ _ hA_k), by simp only; omega⟩ ⟨rfl, rfl, rfl, rfl, rfl, rfl, trivial⟩ (fun w9 hs => (by simp only; rw [hl3]; first | exact hs | (rw [len_snoc]; exact hs)))
     ·have q8 := of_decide_eq_false h8
      obtain ⟨hl1, hl2, hl3⟩ := (ly_step (clL M (bgL M C) zs x.2.2.1) x.2.2.2 (k := u.k) (by rw [clL_len]; omega)).resolve_left (fun h => q8 (Option.some.inj ((by rw [List.getElem?_drop] at hx0; simpa using hx0 : (agL (clL M (bgL M C) zs x.2.2.1) x.2.2.2)[agC (clL M (bgL M C) zs x.2.2.1) x.2.2.2 u.k]? = some v0).symm.trans h.1)))
      refine ac_region ?_
      refine al_p (q_fieldAddr 2 rfl Tryz.runUnderlying39 rfl Tryz.sizeOf30 (by decide) rfl) (al_p (q_load (i := 0) rfl rfl rfl Tryz.isAgg30) (al_p (q_move rfl) (al_new (fun b => .slice (some ⟨b, 0, none⟩) 1 1) (r_buildSlice (.cons rfl .nil) (cai_bs_int_1_0_ _ rfl)) rfl rfl rfl ?_)))
      intro b10
      refine al_grow (z := 1) (bytes := 8) (zv := (.int .i64 0)) (o := u.o) (cs := u.cs) (vs := [.int .i64 (u.k : Int)]) rfl rfl (.s (.s (.s (.s (.s (.s (.z))))))) hgu (Sor.box (j := 0) rfl rfl rfl) Tryz.underlying30 (by kernel_rfl) rfl (by omega) (by decide) rfl rfl (fun o_2 g_2 => ?_)
      refine ⟨_, (.s (.s (.s (.s (.s (.s (.z))))))), ?_⟩
      refine al_p (q_fieldAddr 2 rfl Tryz.runUnderlying39 rfl Tryz.sizeOf30 (by decide) rfl) (al_store1 (i := 1) rfl rfl rfl rfl Tryz.sizeOf30 .k2 .k1 rfl (al_end (aq_inN (aq_then ?_))))
      refine ac_region (al_p (q_move rfl) ?_)
      refine al_p (q_add rfl rfl (by omega)) (al_p (q_assign rfl) (al_end (aq_then ?_)))
      skip
      refine aq_round (⟨u.k + 1, o_2, (u.cs ++ [.int .i64 (u.k : Int)]), u.A, u.n, u.c⟩) (by simp only; omega) ⟨by simp only; omega, by simp only; rw [hl3, List.length_append]; exact g_2, by simp only; unfold lyV; rw [hl3, hcu4]; unfold lyV; rw [List.map_append]; rfl, by simp only; rw [hl2]; exact hIu, hnu, hLu⟩ ⟨rfl, rfl, rfl, rfl, rfl, rfl, trivial⟩ (fun w9 hs => (by simp only; rw [hl3]; first | exact (hs.tail 1 rfl) | (rw [len_snoc]; exact (hs.tail 1 rfl))))
    ·have q130 := of_decide_eq_false hb4
     obtain ⟨hl1, hl2, hl3⟩ := (ly_step (clL M (bgL M C) zs x.2.2.1) x.2.2.2 (k := u.k) (by rw [clL_len]; omega)).resolve_left (fun h => by have h9 := hIu.1; rw [List.length_drop] at h9; have := (List.getElem?_eq_some_iff.1 h.1).1; omega)
     refine al_skip rfl rfl rfl (al_skip rfl rfl rfl (al_skip rfl rfl rfl (al_skip rfl rfl rfl (al_skip rfl rfl rfl ?_))))
     refine al_p (q_pickF rfl rfl) (al_end (aq_then ?_))
     refine ac_condF rfl (ac_region ?_)
     refine al_p (q_fieldAddr 2 rfl Tryz.runUnderlying39 rfl Tryz.sizeOf30 (by decide) rfl) (al_p (q_load (i := 0) rfl rfl rfl Tryz.isAgg30) (al_p (q_move rfl) (al_new (fun b => .slice (some ⟨b, 0, none⟩) 1 1) (r_buildSlice (.cons rfl .nil) (cai_bs_int_1_0_ _ rfl)) rfl rfl rfl ?_)))
     intro b11
     refine al_grow (z := 1) (bytes := 8) (zv := (.int .i64 0)) (o := u.o) (cs := u.cs) (vs := [.int .i64 (u.k : Int)]) rfl rfl (.s (.s (.s (.s (.s (.s (.z))))))) hgu (Sor.box (j := 0) rfl rfl rfl) Tryz.underlying30 (by kernel_rfl) rfl (by omega) (by decide) rfl rfl (fun o_3 g_3 => ?_)
     refine ⟨_, (.s (.s (.s (.s (.s (.s (.z))))))), ?_⟩
     refine al_p (q_fieldAddr 2 rfl Tryz.runUnderlying39 rfl Tryz.sizeOf30 (by decide) rfl) (al_store1 (i := 1) rfl rfl rfl rfl Tryz.sizeOf30 .k2 .k1 rfl (al_end (aq_inN (aq_then ?_))))
     refine ac_region (al_p (q_move rfl) ?_)
     refine al_p (q_add rfl rfl (by omega)) (al_p (q_assign rfl) (al_end (aq_then ?_)))
     skip
     refine aq_round (⟨u.k + 1, o_3, (u.cs ++ [.int .i64 (u.k : Int)]), u.A, u.n, u.c⟩) (by simp only; omega) ⟨by simp only; omega, by simp only; rw [hl3, List.length_append]; exact g_3, by simp only; unfold lyV; rw [hl3, hcu4]; unfold lyV; rw [List.map_append]; rfl, by simp only; rw [hl2]; exact hIu, hnu, hLu⟩ ⟨rfl, rfl, rfl, rfl, rfl, rfl, trivial⟩ (fun w9 hs => (by simp only; rw [hl3]; first | exact (hs.tail 1 rfl) | (rw [len_snoc]; exact (hs.tail 1 rfl))))
   ·have hue : u.k = nf := by have := of_decide_eq_false h7; omega
    refine ac_exit (aq_thenE (aq_thenE (aq_hit (aq_then ?_))))
    refine ac_seq (ac_region ?_)
    refine al_p (q_loadAll (i := 0) rfl rfl Tryz.isAgg39 Tryz.sizeOf39 rfl) (al_storeAll (i := 2) rfl rfl rfl rfl Tryz.sizeOf39 rfl rfl .k2 rfl (al_p (q_assign rfl) (al_end (aq_then ?_))))
    refine ac_ret (retR Tryz.results9 (.agg (i := 2) rfl rfl Tryz.isAgg39 Tryz.sizeOf39 rfl (.tmp rfl .nil)) .two (fun w9 hs => ?_))
    have e1 : accB M C zs = x.2 := by unfold accB; rw [if_pos he, hS]
    have e2 : accZ M C zs = (lyU (clL M (bgL M C) zs x.2.2.1) x.2.2.2 u.k).map fun (j : Nat) => (j : Int) := by unfold accZ lyA; rw [if_pos he, ← hS, hue, ← hnz, hzl, ← clL_len M (bgL M C) zs x.2.2.1]; rfl
    rw [e1, e2]
    unfold candE; rw [if_pos he]
    exact ⟨gA u.o, (lyU (clL M (bgL M C) zs x.2.2.1) x.2.2.2 u.k).length, gC u.o, rfl, hs.grown (enc := intCells) (o := u.o) (cs := u.cs) (fun _ => rfl) (fun y hy => by simp [hy]) hgu (by rw [hcu4, flat_int]; unfold lyV; rw [List.map_map]; rfl) (by rw [List.length_map]), hs.below⟩
end
end Go.Proofs.YthggkidiidnaoaaGreatDoor
