import Derived.Test.YthggkidiidnaoaaGreatWAA
import Derived.Test.YthggkidiidnaoaaGreatWAU
import Derived.Test.YthggkidiidnaoaaGreatWBA
import Derived.Test.YthggkidiidnaoaaGreatWBB
import Derived.Test.YthggkidiidnaoaaGreatRows
import Derived.KernelRfl
import Derived.Laws.StructEq
import Derived.Lib.AppendZeros
namespace Go.Proofs.YthggkidiidnaoaaGreat
set_option linter.unusedVariables false
set_option linter.unusedSimpArgs false
section
open Go.RowKit
def ptA (M : MachD) (j : Nat) : PointD := ⟨cellR M.grid (j : Int), cellZ M.grid (j : Int)⟩
theorem cellL_ok {M : MachD} (hc : checkC M = 0) {x : Nat} (hx : x < cellN M) : cellL M (x : Int) = (cellR M.grid (x : Int), cellZ M.grid (x : Int), 0) := by
 have h := (sound_of hc).grid
 have := cells_fine h
 unfold cellL
 rw [if_pos hc, if_pos (wthn_iff.2 ⟨by omega, by unfold cellN at hx; omega⟩)]
theorem cellsN_ok {M : MachD} (hc : checkC M = 0) : cellsN M = ((cellN M : Nat) : Int) := by
 have := cells_fine (sound_of hc).grid
 unfold cellsN cellN
 rw [if_pos hc]; omega
theorem cellN_bd {M : MachD} (hc : checkC M = 0) : 1 ≤ cellN M ∧ cellN M ≤ 64 := by
 have := cells_fine (sound_of hc).grid
 unfold cellN; omega
abbrev circV (R : MachR) (M : MachD) (A : Option Addr) (c : Nat) : Value := .agg #[.string M.name, .slice R.A R.la R.ca, .slice R.B R.lb R.cb, .slice R.C R.lc R.cc, .int .i64 M.grid.r, .int .i64 M.grid.z, .int .i64 M.grid.nr, .int .i64 M.grid.nz, .int .i64 M.grid.step, .slice R.D R.ld R.cd, .slice A R.lb c]
structure NcS where
 (G : Boxes) (rows : List (Option Addr × Nat))
def rowM (M : MachD) (i : Nat) : List Int := linkL M (sA M i)
def rowN (M : MachD) : Nat := M.coils.length + cellN M
theorem rowM_len (M : MachD) (i : Nat) : (rowM M i).length = rowN M := by unfold rowM linkL rowN; rw [lst_length]
theorem rowM_take (M : MachD) (i j : Nat) (h : j < rowN M) : (rowM M i).take (j + 1) = (rowM M i).take j ++ [lkA M (sA M i) j] := lst_take _ h
structure NewC (M : MachD) (B : Nat) (w : World) (A : Option Addr) (n c : Nat) (rows : List (Option Addr × Nat)) : Prop where
 out : NewT 1 (slcs (rowN M)) B w A n c rows
 row : ∀ (i : Nat) r, rows[i]? = some r → NewT 1 intCells B w r.1 (rowN M) r.2 (rowM M i)
structure IsK (M : MachD) (w : World) (A : Option Addr) (n : Nat) (rows : List (Option Addr × Nat)) : Prop where
 out : IsT 1 (slcs (rowN M)) w A n rows
 row : ∀ (i : Nat) r, rows[i]? = some r → IsT 1 intCells w r.1 (rowN M) (rowM M i)
theorem IsK.below {M : MachD} {w w1 : World} {A : Option Addr} {n : Nat} {rows : List (Option Addr × Nat)} (h : IsK M w A n rows) (hb : Below w.heap.size w w1) : IsK M w1 A n rows := ⟨h.out.below hb, fun i r hr => (h.row i r hr).below hb⟩
theorem kid_bl_circuitcircuit_0_1 (c0_0 c0_1 c0_2 c0_3 c0_4 c0_5 c0_6 c0_7 c0_8 c0_9 a1 : Value) (ha1 : a1.oneCell' = true) : ∀ w, (Instr.build 108 #[(0, .agg #[c0_0, c0_1, c0_2, c0_3, c0_4, c0_5, c0_6, c0_7, c0_8, c0_9]), (1, a1)]).run Tryz.prog w = .ok (.agg #[c0_0, c0_1, c0_2, c0_3, c0_4, c0_5, c0_6, c0_7, c0_8, c0_9, a1]) w := by
 have ea1 : a1.cells = #[a1] := cells_one ha1
 intro w; simp [Instr.build, Instr.fill, cells_agg, Tryz.runUnderlying108, Tryz.zeroValue108, Tryz.sizeOf29, Tryz.sizeOf106, ea1]
theorem kid_bl_apiPoint_0_1 (a0 a1 : Value) (ha0 : a0.oneCell' = true) (ha1 : a1.oneCell' = true) : ∀ w, (Instr.build 53 #[(0, a0), (1, a1)]).run Tryz.prog w = .ok (.agg #[a0, a1]) w := by
 have ea0 : a0.cells = #[a0] := cells_one ha0
 have ea1 : a1.cells = #[a1] := cells_one ha1
 intro w; simp [Instr.build, Instr.fill, cells_agg, Tryz.runUnderlying53, Tryz.zeroValue53, Tryz.sizeOf3, ea0, ea1]
theorem kid_bs_int_1_0_ (a0 : Value) (ha0 : a0.oneCell' = true) : ∀ w, (Instr.buildSlice 30 1 #[(0, a0)]).run Tryz.prog w = .ok (.slice (some ⟨w.heap.size, 0, none⟩) 1 1) (w.alloc (.cells [a0].toArray 3)) := by
 have ea0 : a0.cells = #[a0] := cells_one ha0
 intro w; (simp [Instr.buildSlice, Instr.fill, cells_agg, newRow, Tryz.runUnderlying30, Tryz.zeroValue3, Tryz.sizeOf3, ea0] <;> (rw [(by kernel_rfl : Array.range 1 = #[0])]; simp [Value.cells]))
set_option maxRecDepth 100000 in
theorem newCircuit_any (R : MachR) (M : MachD) (w : World) (hM : IsM w R M) (hc : checkC M = 0) : Calls Tryz.prog 51 #[(.agg (machCells R M))] w (fun e w' => ∃ (A' : Option Addr) (c : Nat) (rows : List (Option Addr × Nat)), e = .returned (circV R M A' c) ∧ NewC M w.heap.size w' A' R.lb c rows ∧ Below w.heap.size w w') := by
 have n1 := hM.coils.1
 have n2 := hM.shells.1
 have n3 := cellN_bd hc
 have n4 := (sound_of hc).coils.1
 have n5 := (sound_of hc).shells.1
 refine calls_ax (vs := [(.agg (machCells R M))]) Tryz.func51 rfl rfl ?_
 refine ac_seq (ac_region ?_)
 refine al_nb (r_box rfl rfl) ?_
 intro b1
 refine al_nb (r_alloc Tryz.zeroValue108 rfl) ?_
 intro b2
 refine al_end (aq_then ?_)
 refine ac_seq (ac_region ?_)
 refine al_p (q_loadAll (i := 1) rfl rfl Tryz.isAgg29 Tryz.sizeOf29 rfl) (al_call Tryz.call94 (.cons rfl .nil) rfl rfl (fun w1 hs1 => ?_))
 refine (mcells_any R M _ (hM.below hs1.below)).mono ?_
 rintro e u1 ⟨rfl, hb_1⟩
 refine ⟨_, rfl, hb_1, ?_⟩
 clear hs1
 refine al_makeAgg (n := cellN M) (bytes := 16) (zv := (.agg #[.int .i64 0, .int .i64 0])) [(.int .i64 0), (.int .i64 0)] rfl rfl (cellsN_ok hc) Tryz.underlying24 kr9 rfl rfl rfl om9 de9 rfl rfl ?_
 intro b3
 refine al_p (q_assign rfl) (al_end (aq_then ?_))
 refine ac_seq (ac_seq (ac_region ?_))
 refine al_p (q_move rfl) (al_p (q_lenS rfl Tryz.runUnderlying24) (al_p (q_move rfl) (al_end (aq_then ?_))))
 refine ac_block ?_
 refine ac_loop (β := Nat) (fun x => x ≤ cellN M) (fun x => [(1, (.pointer (some ⟨b1, 0, none⟩))), (2, (.pointer (some ⟨b2, 0, none⟩))), (3, (.slice (some ⟨b3, 0, none⟩) (cellN M) (cellN M))), (17, (.int .i64 ((cellN M : Nat) : Int))), (18, (.int .i64 (x : Int)))]) (fun _ => _) (fun x => [(b3, .cells (mixF (cellN M) x (fun j => (ptA M j).cells) (fun _ => [.int .i64 0, .int .i64 0]))), (b2, _), (b1, _)]) (fun x => cellN M - x) 0 om9 ⟨rfl, rfl, rfl, rfl, rfl, trivial⟩ (fun w9 hs => (by rw [mixF_zero]; exact hs)) (fun x hF1 => ?_)
 refine ac_seq (ac_region ?_)
 refine al_p (q_lss rfl rfl) (al_end (aq_then ?_))
 refine ac_seq ?_
 refine ac_cond rfl (fun h1 => ?_) (fun h1 => ?_)
 ·have hxl : x < cellN M := by have := of_decide_eq_true h1; omega
  refine ac_skip (aq_then (ac_seq (ac_block (ac_seq (ac_region ?_)))))
  refine al_p (q_move rfl) (al_p (q_assign rfl) (al_end (aq_then ?_)))
  refine ac_region (al_p (q_move rfl) (al_p (q_move rfl) (al_p (q_loadAll (i := 2) rfl rfl Tryz.isAgg29 Tryz.sizeOf29 rfl) (al_p (q_move rfl) ?_))))
  refine al_call Tryz.call95 (.cons rfl (.cons rfl .nil)) rfl rfl (fun w2 hs2 => ?_)
  refine (mcell9_any R M (x : Int) _ (hM.below hs2.below)).mono ?_
  rintro e u2 ⟨rfl, hb_2⟩
  refine ⟨_, rfl, hb_2, ?_⟩
  clear hs2
  refine al_p (q_move rfl) (al_p (q_extract rfl rfl) (al_p (q_extract rfl rfl) (al_p (q_indexAddr (i := x) (0 + x * 2) rfl rfl rfl hxl Tryz.runUnderlying24 Tryz.sizeOf53 rfl) ?_)))
  refine al_storeV (i := 0) (cs' := (mixF (cellN M) (x + 1) (fun j => (ptA M j).cells) (fun _ => [.int .i64 0, .int .i64 0]))) (vs := [.int .i64 (cellL M (x : Int)).1, .int .i64 (cellL M (x : Int)).2.1]) rfl rfl rfl Tryz.sizeOf53 rfl (by rw [mixF_len (z := 2) (fun _ => rfl) (fun _ => rfl)]; omega) rfl (by rw [mixF_store (z := 2) (fun _ => rfl) (fun _ => rfl) hxl, Nat.zero_add]; simp [ptA, PointD.cells, cellL_ok hc hxl]) .k0 rfl ?_
  refine al_end (aq_inN (aq_then (ac_region ?_)))
  refine al_p (q_add rfl rfl om9) (al_p (q_move rfl) (al_end (aq_then ?_)))
  skip
  refine aq_round (x + 1) om9 om9 ⟨rfl, rfl, rfl, rfl, rfl, trivial⟩ (fun w9 hs => (hs.fewer 1 rfl))
 ·have hxe : x = cellN M := by have := of_decide_eq_false h1; omega
  subst hxe
  refine ac_exit (aq_thenE (aq_thenE (aq_hit (aq_then ?_))))
  refine ac_cut (β := Nat × Nat) (fun q => True) (fun q => [(1, (.pointer (some ⟨b1, 0, none⟩))), (2, (.pointer (some ⟨b2, 0, none⟩))), (3, (.slice (some ⟨b3, 0, none⟩) (cellN M) (cellN M))), (5, (.pointer (some ⟨q.1, 0, none⟩)))]) (fun q => []) (fun q L9 => (q.1, .cells [.string M.name, .slice R.A R.la R.ca, .slice R.B R.lb R.cb, .slice R.C R.lc R.cc, .int .i64 M.grid.r, .int .i64 M.grid.z, .int .i64 M.grid.nr, .int .i64 M.grid.nz, .int .i64 M.grid.step, .slice R.D R.ld R.cd, .slice (some ⟨q.2, 0, none⟩) R.lb R.lb]) :: (q.2, .cells (List.replicate R.lb (.slice none 0 0))) :: L9) (fun X9 hX9 => ?_) (fun q hF9 => ?_)
  ·refine ac_draw 7 kr9 kr9 ?_
   refine ah_t 0 (fun w9 hs => hs) rfl rfl kr9 (q_loadAll (i := 2) rfl rfl Tryz.isAgg29 Tryz.sizeOf29 rfl) ?_
   refine ah_t 1 (fun w9 hs => hs) rfl rfl kr9 (q_fieldAddr 2 rfl Tryz.runUnderlying29 rfl Tryz.sizeOf23 de9 rfl) (ah_t 2 (fun w9 hs => hs) rfl rfl kr9 (q_load (i := 2) rfl rfl rfl Tryz.isAgg23) (ah_t 3 (fun w9 hs => hs) rfl rfl kr9 (q_lenS rfl Tryz.runUnderlying23) ?_))
   refine ah_two 4 6 rfl rfl  kr9 (fun hok1 hcl1 => ?_) (fun hok1 hcl1 => ?_)
   ·refine al_makeInts (n := R.lb) (z := (.slice none 0 0)) (bytes := 24) rfl rfl rfl Tryz.underlying106 kr9 rfl om9 de9 rfl rfl ?_
    intro b4
    refine al_end (ah_back hok1 hcl1 (fun w9 hs => (hs.tail 1 rfl)) ?_)
    refine ah_t 5 (fun w9 hs => (hs.tail 1 rfl)) rfl rfl kr9 (q_build (.cons rfl (.cons rfl .nil)) (kid_bl_circuitcircuit_0_1 _ _ _ _ _ _ _ _ _ _ _ rfl)) (ah_one 6 rfl kr9 (fun hok2 hcl2 => ?_))
    refine al_nb (r_alloc Tryz.zeroValue108 rfl) ?_
    intro b5
    refine al_end (ah_back hok2 hcl2 (fun w9 hs => (hs.tail 2 rfl)) ?_)
    refine ah_one 7 rfl kr9 (fun hok3 hcl3 => ?_)
    refine al_storeAll (i := 0) rfl rfl rfl rfl Tryz.sizeOf108 rfl rfl .k0 rfl (al_end (ah_last kr9 ?_))
    refine aq_then ?_
    exact aq_sub (hX9 ((b5, b4)) (trivial)) ⟨rfl, rfl, rfl, rfl, trivial⟩ (fun w9 hs => (hs.firstSnaps 0 rfl))
   ·refine al_nb (r_alloc Tryz.zeroValue108 rfl) ?_
    intro b6
    refine al_end (ah_back hok1 hcl1 (fun w9 hs => (hs.tail 1 rfl)) ?_)
    refine ah_one 4 rfl kr9 (fun hok4 hcl4 => ?_)
    refine al_makeInts (n := R.lb) (z := (.slice none 0 0)) (bytes := 24) rfl rfl rfl Tryz.underlying106 kr9 rfl om9 de9 rfl rfl ?_
    intro b7
    refine al_end (ah_back hok4 hcl4 (fun w9 hs => (hs.tail 2 rfl)) ?_)
    refine ah_t 5 (fun w9 hs => (hs.tail 2 rfl)) rfl rfl kr9 (q_build (.cons rfl (.cons rfl .nil)) (kid_bl_circuitcircuit_0_1 _ _ _ _ _ _ _ _ _ _ _ rfl)) (ah_one 7 rfl kr9 (fun hok5 hcl5 => ?_))
    refine al_storeAll (i := 1) rfl rfl rfl rfl Tryz.sizeOf108 rfl rfl .k1 rfl (al_end (ah_last kr9 ?_))
    refine aq_then ?_
    exact aq_sub (hX9 ((b6, b7)) (trivial)) ⟨rfl, rfl, rfl, rfl, trivial⟩ (fun w9 hs => ((hs.firstSnaps 0 rfl).perm (List.Perm.swap _ _ _)))
  ·refine ac_seq (ac_seq (ac_region ?_))
   refine al_p (q_fieldAddr 2 rfl Tryz.runUnderlying29 rfl Tryz.sizeOf23 de9 rfl) (al_p (q_load (i := 4) rfl rfl rfl Tryz.isAgg23) (al_p (q_lenS rfl Tryz.runUnderlying23) (al_p (q_move rfl) (al_end (aq_then ?_)))))
   refine ac_block ?_
   refine ac_loop (β := NcS) (fun x => x.rows.length ≤ R.lb ∧ RowsF (rowM M) (rowN M) x.G x.rows) (fun x => [(1, (.pointer (some ⟨b1, 0, none⟩))), (2, (.pointer (some ⟨b2, 0, none⟩))), (3, (.slice (some ⟨b3, 0, none⟩) (cellN M) (cellN M))), (5, (.pointer (some ⟨q.1, 0, none⟩))), (38, (.slice (R.B) R.lb R.cb)), (39, (.int .i64 (R.lb : Int))), (40, (.int .i64 (x.rows.length : Int)))]) (fun _ => _) (fun x => (q.1, _) :: (q.2, .cells (outK R.lb (rowN M) x.rows)) :: (b3, _) :: (b2, _) :: (b1, _) :: (x.G)) (fun x => R.lb - x.rows.length) ⟨[], []⟩ ⟨by simp, RowsF.nil _ _ _⟩ ⟨rfl, rfl, rfl, rfl, rfl, rfl, rfl, trivial⟩ (fun w9 hs => (by rw [outK_nil]; exact hs)) (fun x hF2 => ?_)
   obtain ⟨hxn, hri⟩ := hF2
   refine ac_seq (ac_region ?_)
   refine al_p (q_lss rfl rfl) (al_end (aq_then ?_))
   refine ac_seq ?_
   refine ac_cond rfl (fun h2 => ?_) (fun h2 => ?_)
   ·have hxl : x.rows.length < R.lb := by have := of_decide_eq_true h2; omega
    obtain ⟨b21, o21, hA2, hlt2, hget2⟩ := hM.shells.2 om9
    have hx2 := sA_get (M := M) (k := x.rows.length) om9
    refine ac_skip (aq_then (ac_seq (ac_block (ac_seq (ac_region ?_)))))
    refine al_p (q_move rfl) ?_
    refine al_p (q_indexAddrA (i := x.rows.length) (o21 + x.rows.length * 4 + 0) hA2 rfl rfl rfl om9 Tryz.runUnderlying23 Tryz.sizeOf142 rfl) (al_p (q_loadXs (ShellD.cells (sA M x.rows.length)) rfl Tryz.isAgg142 Tryz.sizeOf142 (fun w9 hs j9 v9 h9 => by rw [addr_add]; exact (hs.below.cell (p := ⟨_, _, none⟩) hlt2).trans ((hget2 x.rows.length _ hx2) j9 v9 h9)) rfl) (al_new (fun b => .pointer (some ⟨b, 0, none⟩)) (r_alloc Tryz.zeroValue142 rfl) rfl rfl rfl ?_))
    intro b8
    refine al_p (q_assign rfl) (al_storeAll (i := 0) rfl rfl rfl rfl Tryz.sizeOf142 rfl rfl .k0 rfl (al_end (aq_then ?_)))
    refine ac_seq (ac_region ?_)
    refine al_p (q_fieldAddr 0 rfl Tryz.runUnderlying142 rfl Tryz.sizeOf3 de9 rfl) (al_p (q_load (i := 0) rfl rfl rfl Tryz.isAgg3) ?_)
    refine al_p (q_fieldAddr 1 rfl Tryz.runUnderlying142 rfl Tryz.sizeOf3 de9 rfl) (al_p (q_load (i := 0) rfl rfl rfl Tryz.isAgg3) (al_p (q_build (.cons rfl (.cons rfl .nil)) (kid_bl_apiPoint_0_1 _ _ rfl rfl)) (al_new (fun b => .pointer (some ⟨b, 0, none⟩)) (r_alloc Tryz.zeroValue53 rfl) rfl rfl rfl ?_)))
    intro b9
    refine al_storeAll (i := 0) rfl rfl rfl rfl Tryz.sizeOf53 rfl rfl .k0 rfl (al_end (aq_then ?_))
    refine ac_seq (ac_seq (ac_region ?_))
    refine al_p (q_fieldAddr 1 rfl Tryz.runUnderlying29 rfl Tryz.sizeOf22 de9 rfl) (al_p (q_load (i := 6) rfl rfl rfl Tryz.isAgg22) (al_p (q_lenS rfl Tryz.runUnderlying22) (al_p (q_move rfl) (al_end (aq_then ?_)))))
    refine ac_block ?_
    refine ac_loop (β := Nat × Gr × List Value) (fun y => y.1 ≤ R.la ∧ gok y.2.1 y.1 1 y.2.2 ∧ y.2.2 = ((rowM M x.rows.length).take y.1).map (Value.int .i64)) (fun y => [(1, (.pointer (some ⟨b1, 0, none⟩))), (2, (.pointer (some ⟨b2, 0, none⟩))), (3, (.slice (some ⟨b3, 0, none⟩) (cellN M) (cellN M))), (5, (.pointer (some ⟨q.1, 0, none⟩))), (6, (.int .i64 (x.rows.length : Int))), (7, (.pointer (some ⟨b8, 0, none⟩))), (8, (.pointer (some ⟨b9, 0, none⟩))), (38, (.slice (R.B) R.lb R.cb)), (39, (.int .i64 (R.lb : Int))), (40, (.int .i64 (x.rows.length : Int))), (42, (.int .i64 (x.rows.length : Int))), (43, (.pointer (some ⟨b21, o21 + x.rows.length * 4 + 0, none⟩))), (45, (.pointer (some ⟨b8, 0, none⟩))), (47, (.pointer (some ⟨b8, 1, none⟩))), (50, (.pointer (some ⟨b1, 1, none⟩))), (51, (.slice (R.A) R.la R.ca)), (52, (.int .i64 (R.la : Int))), (53, (.int .i64 (y.1 : Int)))]) (fun _ => _) (fun y => (b9, _) :: (b8, _) :: (q.1, _) :: (q.2, .cells (linkC R.lb (rowN M) x.rows y.2.1 y.1)) :: (b3, _) :: (b2, _) :: (b1, _) :: (gt y.2.1 y.2.2 ++ (x.G))) (fun y => R.la - y.1) (0, none, []) ⟨by simp, gok.none 1, by simp⟩ ⟨rfl, rfl, rfl, rfl, rfl, rfl, rfl, rfl, rfl, rfl, rfl, rfl, rfl, rfl, rfl, rfl, rfl, rfl, trivial⟩ (fun w9 hs => (by rw [outK_link hxl] at hs; exact hs)) (fun y hF3 => ?_)
    obtain ⟨hyn, hgy, hcy⟩ := hF3
    refine ac_seq (ac_region ?_)
    refine al_p (q_lss rfl rfl) (al_end (aq_then ?_))
    refine ac_seq ?_
    refine ac_cond rfl (fun h3 => ?_) (fun h3 => ?_)
    ·have hyl : y.1 < R.la := by have := of_decide_eq_true h3; omega
     obtain ⟨b11, o11, hA1, hlt1, hget1⟩ := hM.coils.2 om9
     have hx1 := cA_get (M := M) (k := y.1) om9
     have hval3 : (cA M y.1).turns * infl (sA M x.rows.length).r (sA M x.rows.length).z (cA M y.1).r (cA M y.1).z = lkA M (sA M x.rows.length) y.1 := by unfold lkA; rw [if_pos om9]
     have hmb := lk_bd hc (sA M x.rows.length) y.1
     rw [← hval3] at hmb
     refine ac_skip (aq_then (ac_seq (ac_block (ac_seq (ac_region ?_)))))
     refine al_p (q_indexAddrA (i := y.1) (o11 + y.1 * 8 + 0) hA1 rfl rfl rfl om9 Tryz.runUnderlying22 Tryz.sizeOf51 rfl) (al_p (q_loadXs (CoilD.cells (cA M y.1)) rfl Tryz.isAgg51 Tryz.sizeOf51 (fun w9 hs j9 v9 h9 => by rw [addr_add]; exact (hs.below.cell (p := ⟨_, _, none⟩) hlt1).trans ((hget1 y.1 _ hx1) j9 v9 h9)) rfl) (al_new (fun b => .pointer (some ⟨b, 0, none⟩)) (r_alloc Tryz.zeroValue51 rfl) rfl rfl rfl ?_))
     intro b10
     refine al_storeAll (i := 0) rfl rfl rfl rfl Tryz.sizeOf51 rfl rfl .k0 rfl (al_end (aq_then ?_))
     refine ac_drawF 21 (.s (.s (.s (.s (.s (.s (.s (.s .z)))))))) kr9 kr9 ?_
     refine ah_t 0 (fun w9 hs => (hs.front (.s8 .z))) rfl rfl kr9 (q_fieldAddr 10 rfl Tryz.runUnderlying108 rfl Tryz.sizeOf106 de9 rfl) (ah_t 1 (fun w9 hs => (hs.front (.s8 .z))) rfl rfl kr9 (q_load (i := 3) rfl rfl rfl Tryz.isAgg106) (ah_t 2 (fun w9 hs => (hs.front (.s8 .z))) rfl rfl kr9 (q_move rfl) ?_))
     refine ah_t 3 (fun w9 hs => (hs.front (.s8 .z))) rfl rfl kr9 (q_fieldAddr 10 rfl Tryz.runUnderlying108 rfl Tryz.sizeOf106 de9 rfl) (ah_t 4 (fun w9 hs => (hs.front (.s8 .z))) rfl rfl kr9 (q_load (i := 3) rfl rfl rfl Tryz.isAgg106) (ah_t 5 (fun w9 hs => (hs.front (.s8 .z))) rfl rfl kr9 (q_move rfl) ?_))
     refine ah_t 6 (fun w9 hs => (hs.front (.s8 .z))) rfl rfl kr9 (q_indexAddr (i := x.rows.length) (x.rows.length) rfl rfl rfl hxl Tryz.runUnderlying106 Tryz.sizeOf30 om9) (ah_t 7 (fun w9 hs => (hs.front (.s8 .z))) rfl rfl kr9 (q_load (i := 4) rfl rfl (linkC_get R.lb (rowN M) x.rows y.2.1 y.1) Tryz.isAgg30) ?_)
     refine ah_t 8 (fun w9 hs => (hs.front (.s8 .z))) rfl rfl kr9 (q_fieldAddr 3 rfl Tryz.runUnderlying51 rfl Tryz.sizeOf3 de9 rfl) (ah_t 9 (fun w9 hs => (hs.front (.s8 .z))) rfl rfl kr9 (q_load (i := 0) rfl rfl rfl Tryz.isAgg3) (ah_t 10 (fun w9 hs => (hs.front (.s8 .z))) rfl rfl kr9 (q_loadAll (i := 1) rfl rfl Tryz.isAgg53 Tryz.sizeOf53 rfl) ?_))
     refine ah_t 11 (fun w9 hs => (hs.front (.s8 .z))) rfl rfl kr9 (q_fieldAddr 1 rfl Tryz.runUnderlying51 rfl Tryz.sizeOf3 de9 rfl) (ah_t 12 (fun w9 hs => (hs.front (.s8 .z))) rfl rfl kr9 (q_load (i := 0) rfl rfl rfl Tryz.isAgg3) ?_)
     refine ah_t 13 (fun w9 hs => (hs.front (.s8 .z))) rfl rfl kr9 (q_fieldAddr 2 rfl Tryz.runUnderlying51 rfl Tryz.sizeOf3 de9 rfl) (ah_t 14 (fun w9 hs => (hs.front (.s8 .z))) rfl rfl kr9 (q_load (i := 0) rfl rfl rfl Tryz.isAgg3) (ah_t 15 (fun w9 hs => (hs.front (.s8 .z))) rfl rfl kr9 (q_build (.cons rfl (.cons rfl .nil)) (kid_bl_apiPoint_0_1 _ _ rfl rfl)) (ah_one 16 rfl kr9 (fun hok6 hcl6 => ?_))))
     refine al_call Tryz.call96 (.cons rfl (.cons rfl .nil)) rfl rfl (fun w3 hs3 => ?_)
     refine (influence_any (sA M x.rows.length).r (sA M x.rows.length).z (cA M y.1).r (cA M y.1).z _).mono ?_
     rintro e u3 ⟨rfl, hb_3⟩
     refine ⟨_, rfl, hb_3, ?_⟩
     clear hs3
     refine al_end (ah_back hok6 hcl6 (fun w9 hs => ((hs.fewer 1 rfl).front (.s8 .z))) ?_)
     refine ah_t 17 (fun w9 hs => ((hs.fewer 1 rfl).front (.s8 .z))) rfl rfl kr9 (q_mul rfl rfl om9) (ah_one 18 rfl kr9 (fun hok7 hcl7 => ?_))
     refine al_new (fun b => .slice (some ⟨b, 0, none⟩) 1 1) (r_buildSlice (.cons rfl .nil) (kid_bs_int_1_0_ _ rfl)) rfl rfl rfl ?_
     intro b11
     refine al_end (ah_back hok7 hcl7 (fun w9 hs => (((hs.fewer 1 rfl).tail 1 rfl).front (.s8 .z))) ?_)
     refine ah_one 19 rfl kr9 (fun hok8 hcl8 => ?_)
     refine al_grow (z := 1) (bytes := 8) (zv := (.int .i64 0)) (o := y.2.1) (cs := y.2.2) (vs := [.int .i64 ((cA M y.1).turns * infl (sA M x.rows.length).r (sA M x.rows.length).z (cA M y.1).r (cA M y.1).z)]) rfl rfl (.s9 .z) hgy (Sor.box (j := 0) rfl rfl rfl) Tryz.underlying30 kr9 rfl om9 de9 rfl rfl (fun o_1 g_1 => ?_)
     refine ⟨_, (.s9 .z), ?_⟩
     refine al_end (ah_back hok8 hcl8 (fun w9 hs => (((hs.fewer 1 rfl).tail 1 rfl).front (.s8 .z))) ?_)
     refine ah_t 20 (fun w9 hs => (((hs.fewer 1 rfl).tail 1 rfl).front (.s8 .z))) rfl rfl kr9 (q_indexAddr (i := x.rows.length) (x.rows.length) rfl rfl rfl hxl Tryz.runUnderlying106 Tryz.sizeOf30 om9) (ah_one 21 rfl kr9 (fun hok9 hcl9 => ?_))
     refine al_store1 (i := 5) rfl rfl rfl rfl Tryz.sizeOf30 (SetAt.ofSet (by rw [linkC_len _ _ _ _ _ hxl]; exact hxl)) .k5 rfl (al_end (ah_last kr9 ?_))
     refine aq_inN (aq_then (aq_keepL [1, 2, 3, 5, 6, 7, 8, 10, 38, 39, 40, 42, 43, 45, 47, 50, 51, 52, 53, 54, 55, 56, 57, 58, 59, 60, 61, 62, 63, 64, 65, 66, 67, 68, 69, 70, 71, 72, 73, 74, 75, 76, 77] (.cons rfl (.cons rfl (.cons rfl (.cons rfl (.cons rfl (.cons rfl (.cons rfl (.cons rfl (.cons rfl (.cons rfl (.cons rfl (.cons rfl (.cons rfl (.cons rfl (.cons rfl (.cons rfl (.cons rfl (.cons rfl (.cons rfl (.cons rfl (.cons rfl (.cons rfl (.cons rfl (.cons rfl (.cons rfl (.cons rfl (.cons rfl (.cons rfl (.cons rfl (.cons rfl (.cons rfl (.cons rfl (.cons rfl (.cons rfl (.cons rfl (.cons rfl (.cons rfl (.cons rfl (.cons rfl (.cons rfl (.cons rfl (.cons rfl (.cons rfl .nil))))))))))))))))))))))))))))))))))))))))))) ?_))
     refine ac_region ?_
     refine al_p (q_add rfl rfl om9) (al_p (q_move rfl) (al_end (aq_then ?_)))
     skip
     refine aq_round ((y.1 + 1, o_1, y.2.2 ++ [.int .i64 ((cA M y.1).turns * infl (sA M x.rows.length).r (sA M x.rows.length).z (cA M y.1).r (cA M y.1).z)])) (by simp only; omega) ⟨by simp only; omega, g_1, by simp only; rw [hcy, rowM_take M _ _ (by unfold rowN; omega), hval3]; simp⟩ ⟨rfl, rfl, rfl, rfl, rfl, rfl, rfl, rfl, rfl, rfl, rfl, rfl, rfl, rfl, rfl, rfl, rfl, rfl, trivial⟩ (fun w9 hs => (by have h9 := ((hs.fewer 1 rfl).tail 2 rfl); rw [linkC_set] at h9; exact h9))
    ·have hye : y.1 = R.la := by have := of_decide_eq_false h3; omega
     refine ac_exit (aq_thenE (aq_thenE (aq_hit (aq_then ?_))))
     refine ac_seq (ac_region ?_)
     refine al_p (q_move rfl) (al_p (q_lenS rfl Tryz.runUnderlying24) (al_p (q_move rfl) (al_end (aq_then ?_))))
     refine ac_block ?_
     refine ac_loop (β := Nat × Gr × List Value) (fun z => (R.la ≤ z.1 ∧ z.1 ≤ R.la + cellN M) ∧ gok z.2.1 z.1 1 z.2.2 ∧ z.2.2 = ((rowM M x.rows.length).take z.1).map (Value.int .i64)) (fun z => [(1, (.pointer (some ⟨b1, 0, none⟩))), (2, (.pointer (some ⟨b2, 0, none⟩))), (3, (.slice (some ⟨b3, 0, none⟩) (cellN M) (cellN M))), (5, (.pointer (some ⟨q.1, 0, none⟩))), (6, (.int .i64 (x.rows.length : Int))), (7, (.pointer (some ⟨b8, 0, none⟩))), (8, (.pointer (some ⟨b9, 0, none⟩))), (38, (.slice (R.B) R.lb R.cb)), (39, (.int .i64 (R.lb : Int))), (40, (.int .i64 (x.rows.length : Int))), (42, (.int .i64 (x.rows.length : Int))), (43, (.pointer (some ⟨b21, o21 + x.rows.length * 4 + 0, none⟩))), (45, (.pointer (some ⟨b8, 0, none⟩))), (47, (.pointer (some ⟨b8, 1, none⟩))), (50, (.pointer (some ⟨b1, 1, none⟩))), (51, (.slice (R.A) R.la R.ca)), (52, (.int .i64 (R.la : Int))), (53, (.int .i64 (y.1 : Int))), (79, (.slice (some ⟨b3, 0, none⟩) (cellN M) (cellN M))), (80, (.int .i64 ((cellN M) : Int))), (81, (.int .i64 ((z.1 - R.la : Nat) : Int)))]) (fun _ => _) (fun z => (b9, _) :: (b8, _) :: (q.1, _) :: (q.2, .cells (linkC R.lb (rowN M) x.rows z.2.1 z.1)) :: (b3, _) :: (b2, _) :: (b1, _) :: (gt z.2.1 z.2.2 ++ (x.G))) (fun z => R.la + cellN M - z.1) y ⟨⟨by omega, by omega⟩, hgy, hcy⟩ ⟨rfl, rfl, rfl, rfl, rfl, rfl, rfl, rfl, rfl, rfl, rfl, rfl, rfl, rfl, rfl, rfl, rfl, rfl, rfl, rfl, (by rw [hye, Nat.sub_self]; rfl), trivial⟩ (fun w9 hs => hs) (fun z hF4 => ?_)
     obtain ⟨⟨hzm, hzn⟩, hgz, hcz⟩ := hF4
     refine ac_seq (ac_region ?_)
     refine al_p (q_lss rfl rfl) (al_end (aq_then ?_))
     refine ac_seq ?_
     refine ac_cond rfl (fun h4 => ?_) (fun h4 => ?_)
     ·have hzl : z.1 - R.la < cellN M := by have := of_decide_eq_true h4; omega
      have hval4 : infl (sA M x.rows.length).r (sA M x.rows.length).z (ptA M (z.1 - R.la)).r (ptA M (z.1 - R.la)).z = lkA M (sA M x.rows.length) z.1 := by unfold lkA; rw [if_neg om9, n1]; rfl
      have hpt : ∀ (i : Nat) (v : Value), (PointD.cells (ptA M (z.1 - R.la)))[i]? = some v → (mixF (cellN M) (cellN M) (fun j => (ptA M j).cells) (fun _ => [.int .i64 0, .int .i64 0]))[0 + (z.1 - R.la) * 2 + i]? = some v := fun i v hv => by rw [Nat.zero_add]; exact mixF_old (z := 2) (fun _ => rfl) (fun _ => rfl) hzl (by rw [if_pos hzl]; exact hv)
      refine ac_skip (aq_then (ac_seq (ac_block (ac_seq (ac_region ?_)))))
      refine al_p (q_indexAddr (i := (z.1 - R.la)) (0 + (z.1 - R.la) * 2 + 0) rfl rfl rfl om9 Tryz.runUnderlying24 Tryz.sizeOf53 rfl) (al_p (q_loadXs (PointD.cells (ptA M (z.1 - R.la))) rfl Tryz.isAgg53 Tryz.sizeOf53 (fun w9 hs j9 v9 h9 => by rw [addr_add]; exact ((hs.at 4 rfl).cell _ rfl _ _ (hpt j9 v9 h9)).1) rfl) (al_new (fun b => .pointer (some ⟨b, 0, none⟩)) (r_alloc Tryz.zeroValue53 rfl) rfl rfl rfl ?_))
      intro b12
      refine al_storeAll (i := 0) rfl rfl rfl rfl Tryz.sizeOf53 rfl rfl .k0 rfl (al_end (aq_then ?_))
      refine ac_drawF 14 (.s (.s (.s (.s (.s (.s (.s (.s .z)))))))) kr9 kr9 ?_
      refine ah_t 0 (fun w9 hs => (hs.front (.s8 .z))) rfl rfl kr9 (q_fieldAddr 10 rfl Tryz.runUnderlying108 rfl Tryz.sizeOf106 de9 rfl) (ah_t 1 (fun w9 hs => (hs.front (.s8 .z))) rfl rfl kr9 (q_load (i := 3) rfl rfl rfl Tryz.isAgg106) (ah_t 2 (fun w9 hs => (hs.front (.s8 .z))) rfl rfl kr9 (q_move rfl) ?_))
      refine ah_t 3 (fun w9 hs => (hs.front (.s8 .z))) rfl rfl kr9 (q_fieldAddr 10 rfl Tryz.runUnderlying108 rfl Tryz.sizeOf106 de9 rfl) (ah_t 4 (fun w9 hs => (hs.front (.s8 .z))) rfl rfl kr9 (q_load (i := 3) rfl rfl rfl Tryz.isAgg106) (ah_t 5 (fun w9 hs => (hs.front (.s8 .z))) rfl rfl kr9 (q_move rfl) ?_))
      refine ah_t 6 (fun w9 hs => (hs.front (.s8 .z))) rfl rfl kr9 (q_indexAddr (i := x.rows.length) (x.rows.length) rfl rfl rfl hxl Tryz.runUnderlying106 Tryz.sizeOf30 om9) (ah_t 7 (fun w9 hs => (hs.front (.s8 .z))) rfl rfl kr9 (q_load (i := 4) rfl rfl (linkC_get R.lb (rowN M) x.rows z.2.1 z.1) Tryz.isAgg30) (ah_t 8 (fun w9 hs => (hs.front (.s8 .z))) rfl rfl kr9 (q_loadAll (i := 1) rfl rfl Tryz.isAgg53 Tryz.sizeOf53 rfl) (ah_t 9 (fun w9 hs => (hs.front (.s8 .z))) rfl rfl kr9 (q_loadAll (i := 0) rfl rfl Tryz.isAgg53 Tryz.sizeOf53 rfl) (ah_one 10 rfl kr9 (fun hok10 hcl10 => ?_)))))
      refine al_call Tryz.call96 (.cons rfl (.cons rfl .nil)) rfl rfl (fun w4 hs4 => ?_)
      refine (influence_any (sA M x.rows.length).r (sA M x.rows.length).z (ptA M (z.1 - R.la)).r (ptA M (z.1 - R.la)).z _).mono ?_
      rintro e u4 ⟨rfl, hb_4⟩
      refine ⟨_, rfl, hb_4, ?_⟩
      clear hs4
      refine al_end (ah_back hok10 hcl10 (fun w9 hs => ((hs.fewer 1 rfl).front (.s8 .z))) ?_)
      refine ah_one 11 rfl kr9 (fun hok11 hcl11 => ?_)
      refine al_new (fun b => .slice (some ⟨b, 0, none⟩) 1 1) (r_buildSlice (.cons rfl .nil) (kid_bs_int_1_0_ _ rfl)) rfl rfl rfl ?_
      intro b13
      refine al_end (ah_back hok11 hcl11 (fun w9 hs => (((hs.fewer 1 rfl).tail 1 rfl).front (.s8 .z))) ?_)
      refine ah_one 12 rfl kr9 (fun hok12 hcl12 => ?_)
      refine al_grow (z := 1) (bytes := 8) (zv := (.int .i64 0)) (o := z.2.1) (cs := z.2.2) (vs := [.int .i64 (infl (sA M x.rows.length).r (sA M x.rows.length).z (ptA M (z.1 - R.la)).r (ptA M (z.1 - R.la)).z)]) rfl rfl (.s9 .z) hgz (Sor.box (j := 0) rfl rfl rfl) Tryz.underlying30 kr9 rfl om9 de9 rfl rfl (fun o_2 g_2 => ?_)
      refine ⟨_, (.s9 .z), ?_⟩
      refine al_end (ah_back hok12 hcl12 (fun w9 hs => (((hs.fewer 1 rfl).tail 1 rfl).front (.s8 .z))) ?_)
      refine ah_t 13 (fun w9 hs => (((hs.fewer 1 rfl).tail 1 rfl).front (.s8 .z))) rfl rfl kr9 (q_indexAddr (i := x.rows.length) (x.rows.length) rfl rfl rfl hxl Tryz.runUnderlying106 Tryz.sizeOf30 om9) (ah_one 14 rfl kr9 (fun hok13 hcl13 => ?_))
      refine al_store1 (i := 5) rfl rfl rfl rfl Tryz.sizeOf30 (SetAt.ofSet (by rw [linkC_len _ _ _ _ _ hxl]; exact hxl)) .k5 rfl (al_end (ah_last kr9 ?_))
      refine aq_inN (aq_then (ac_region ?_))
      refine al_p (q_add rfl rfl om9) (al_p (q_move rfl) (al_end (aq_then ?_)))
      skip
      refine aq_round ((z.1 + 1, o_2, z.2.2 ++ [.int .i64 (infl (sA M x.rows.length).r (sA M x.rows.length).z (ptA M (z.1 - R.la)).r (ptA M (z.1 - R.la)).z)])) (by simp only; omega) ⟨⟨by simp only; omega, by simp only; omega⟩, g_2, by simp only; rw [hcz, rowM_take M _ _ (by unfold rowN; omega), hval4]; simp⟩ ⟨rfl, rfl, rfl, rfl, rfl, rfl, rfl, rfl, rfl, rfl, rfl, rfl, rfl, rfl, rfl, rfl, rfl, rfl, rfl, rfl, (by simp only; rw [show z.1 + 1 - R.la = (z.1 - R.la) + 1 by omega]; rfl), trivial⟩ (fun w9 hs => (by have h9 := ((hs.fewer 1 rfl).tail 2 rfl); rw [linkC_set] at h9; exact h9))
     ·have hze : z.1 = rowN M := by have := of_decide_eq_false h4; unfold rowN; omega
      refine ac_exit (aq_thenE (aq_thenE (aq_hit (aq_inN ?_))))
      refine aq_then (ac_region ?_)
      refine al_p (q_add rfl rfl om9) (al_p (q_move rfl) (al_end (aq_then ?_)))
      skip
      refine aq_round (⟨gt z.2.1 z.2.2 ++ x.G, x.rows ++ [(gA z.2.1, gC z.2.1)]⟩) (by simp only [List.length_append, List.length_cons, List.length_nil]; omega) ⟨by simp only [List.length_append, List.length_cons, List.length_nil]; omega, hri.snoc (by rw [← hze]; exact hgz) (by unfold rowN; omega) (rowM_len _ _) (by rw [hcz, hze, List.take_of_length_le (by rw [rowM_len]; exact Nat.le_refl _)])⟩ ⟨rfl, rfl, rfl, rfl, rfl, rfl, (by simp only [List.length_append, List.length_cons, List.length_nil]; rfl), trivial⟩ (fun w9 hs => (by have h9 := (hs.tail 2 rfl); rw [hze, linkC_out] at h9; exact h9))
   ·have hxe : x.rows.length = R.lb := by have := of_decide_eq_false h2; omega
    refine ac_exit (aq_thenE (aq_thenE (aq_hit (aq_then ?_))))
    refine ac_seq (ac_region ?_)
    refine al_p (q_loadAll (i := 0) rfl rfl Tryz.isAgg108 Tryz.sizeOf108 rfl) (al_storeAll (i := 3) rfl rfl rfl rfl Tryz.sizeOf108 rfl rfl .k3 rfl (al_end (aq_then ?_)))
    refine ac_ret (retR Tryz.results51 (.agg (i := 3) rfl rfl Tryz.isAgg108 Tryz.sizeOf108 rfl .nil) .one (fun w9 hs => ?_))
    exact ⟨some ⟨q.2, 0, none⟩, R.lb, x.rows, rfl, ⟨⟨isT_box0 (n := 1) (enc := slcs (rowN M)) (fun _ => rfl) (hs.at 1 rfl) (outK_all hxe).symm hxe, hs.new 1 rfl, Nat.le_refl _, by omega⟩, fun i r hr => hs.rowF (G := x.G) (fun y hy => by simp [hy]) hri i r hr⟩, hs.below⟩
end
section
set_option autoImplicit false
open Go.RowKit
section
variable {P : Program} {e0 : Cfg} {U : Snaps} {l : Slots} {L : Boxes} {ops : Array Oper} {Q : Exit → Act → World → Prop} {rest : List Oper} {d : Nat} {v : Value}
variable {ty : TypeId} {pos : String} {af : Array Edge} {g : Option (Nat × Bool)} {dd : Option Nat}
theorem q_cap {st e : TypeId} {ox : Operand} {p : Option Addr} {m c : Nat} (hx : E l ox = some (.slice p m c)) (hu : ∀ w, (underlying st).run P w = .ok (.slice e) w) : Q1 P e0 U l L ⟨dd, .call ⟨.builtin .cap, #[ox], #[st]⟩, ty, pos, af, g⟩ (.int .i64 (c : Int)) := by
 intro a w hf hs
 simp [execOp, resolve, invoke, builtin, hf.ev hx, Builtin.cap_, goInt, hu]
theorem q_upto {t e z len cap hi : Nat} {hii : Int} {k : IntKind} {A : Option Addr} {ox oj : Operand} (hx : E l ox = some (.slice A len cap)) (hi2 : E l oj = some (.int k hii)) (h2 : hii = (hi : Int)) (hcap : hi ≤ cap) (hu : P.underlying t = some (.slice e)) (hz : ∀ w, (sizeOf e).run P w = .ok z w) :
  Q1 P e0 U l L ⟨dd, .slice t ox none (some oj) none, ty, pos, af, g⟩ (.slice A hi cap) := by
 intro a w hf hs
 subst h2
 have hru : ∀ w, (underlying t).run P w = .ok (.slice e) w := fun w => run_underlying hu w
 simp only [execOp, hf.ev hx, Option.map_some, hf.ev hi2, Option.map_none]
 simp [Instr.sliceAt, Instr.slice, hru, Instr.sliceBounds, Instr.sliceBound, asIntOf, hcap, hz]
 cases A <;> simp [Addr.add]
theorem al_appendZ {t tn e z bytes n : Nat} {x : Int} {zv : Value} {kn : IntKind} {L1 G : Boxes} {ox oy : Operand} (hx : E l ox = some (.slice none 0 0)) (hy : E l oy = some (.int .i64 x)) (hxn : x = (n : Int)) (h0 : 0 < n) (hT : Tl L1 G L)
  (hu : P.underlying t = some (.slice e)) (hut : P.underlying tn = some (.int kn)) (hinfo : (P.info? e).map (fun i => (i.zero, i.size, i.bytes)) = some (some zv, z, bytes)) (hzv : zv.cells.size = z) (hz0 : Nat.blt 0 z = true) (hm : n ≤ 1000000) (hb : bytes ≤ 10000)
  (hn : Nat.blt d e0.n = true) (hw : want ops l g = some true)
  (k : ∀ o', gok o' 0 z [] → n ≤ gC o' → ∃ L', Tl L1 (gt o' [] ++ G) L' ∧ AL P ops Q e0 U ((d, .slice (gA o') n (gC o')) :: l) L' rest) :
  AL P ops Q e0 U l L (⟨some d, .call ⟨.builtin .append, #[ox, oy], #[t, tn]⟩, ty, pos, af, g⟩ :: rest) :=
 al_run2 (K := True) hw rfl hn (fun a w hf hs => by
  subst hxn
  obtain ⟨i, hi, hzz, h1, rfl⟩ := info_split hinfo
  have hz0' : 0 < z := by simpa [Nat.blt_eq] using hz0
  have hnb : n * i.bytes ≤ 1000000 * 10000 := Nat.mul_le_mul hm hb
  have hr := Lib.run_append_nil_zeros (P := P) w t tn ty e i zv .i64 kn hu hut hi hzz n h0 om9 om9 om9
  have hcap := grownCap_ge w n 0 e
  have hcz : (Builtin.zeroCells zv.cells n ++ Builtin.zeroCells zv.cells (grownCap w n 0 e - n)).toList.length = grownCap w n 0 e * z := by
   rw [Array.length_toList, Array.size_append, size_zeroCells, size_zeroCells, hzv, ← Nat.add_mul]
   congr 1; omega
  obtain ⟨C, hC⟩ : ∃ C, grownCap w n 0 e = C := ⟨_, rfl⟩
  obtain ⟨S, hS⟩ : ∃ S, Builtin.zeroCells zv.cells n ++ Builtin.zeroCells zv.cells (C - n) = S := ⟨_, rfl⟩
  have hC2 : C ≤ 9223372036854775807 := hC ▸ grownCap_le63 w n 0 _ om9
  rw [hC, hS] at hr hcz
  rw [hC] at hcap
  have hg : gok (some (w.heap.size, C, S.toList)) 0 z [] := ⟨by simp, (fun e => by cases e), fun b c sp e => by
   cases e; exact ⟨Nat.zero_le _, hC2, by rw [hcz, Nat.sub_zero]⟩⟩
  obtain ⟨L', hL', hk⟩ := k _ hg hcap
  refine ⟨.slice (some ⟨w.heap.size, 0, none⟩) n C, w.drew.alloc (.cells S e), U, L', ?_, ?_, hk⟩
  ·simp [execOp, resolve, invoke, builtin, hf.ev hx, hf.ev hy, hr]
  ·have hA := hs.drew.adopt (w' := w.drew.alloc (.cells S e)) (b := w.heap.size) (cs := .cells S.toList) ((Below.refl _ _).alloc (Nat.le_refl _) _) (Nat.le_refl _) (by have := BoxAt.new w.drew S.toList e; simpa using this)
   refine hA.perm ?_
   rw [hL'.eq, hT.eq]
   simp only [gt, List.nil_append, List.singleton_append]
   exact List.perm_middle.symm)
end
end
section
open Go.RowKit
set_option maxRecDepth 100000 in
theorem grow_nil (n : Nat) (w : World) (hn : n ≤ 1000000) : Calls Tryz.prog 168 #[(.slice none 0 0), (.int .i64 (n : Int))] w (fun e w' => ∃ o, e = .returned (.slice (gA o) 0 (gC o)) ∧ gok o 0 1 [] ∧ Own w (gt o []) w') := by
 refine calls_ax (vs := [(.slice none 0 0), (.int .i64 (n : Int))]) Tryz.func168 rfl rfl ?_
 refine ac_seq (ac_region ?_)
 refine al_p (q_assign rfl) (al_end (aq_then ?_))
 refine ac_seq (ac_seq (ac_region ?_))
 refine al_p (q_move rfl) (al_p (q_lss rfl rfl) (al_end (aq_then ?_)))
 refine ac_cond rfl (fun h1 => ?_) (fun h1 => ?_)
 ·exfalso; have := of_decide_eq_true h1; omega
 ·skip
  refine ac_skip (aq_then (ac_seq (ac_seq (ac_region ?_))))
  refine al_p (q_move rfl) (al_p (q_move rfl) (al_p (q_cap rfl Tryz.runUnderlying30) (al_p (q_move rfl) (al_p (q_lenS rfl Tryz.runUnderlying30) ?_))))
  refine al_p (q_sub rfl rfl om9) ?_
  refine al_p (q_sub rfl rfl om9) (al_p (q_assign rfl) (al_end (aq_then ?_)))
  refine ac_seq (ac_region ?_)
  refine al_p (q_move rfl) (al_p (q_gtr rfl rfl) (al_end (aq_then ?_)))
  refine ac_cond rfl (fun h2 => ?_) (fun h2 => ?_)
  ·have h0 : 0 < n := by have := of_decide_eq_true h2; omega
   refine ac_region (al_p (q_move rfl) (al_p (q_move rfl) (al_p (q_cap rfl Tryz.runUnderlying30) (al_p (q_upto (hi := 0) rfl rfl rfl (Nat.le_refl _) Tryz.underlying30 Tryz.sizeOf3) ?_))))
   refine al_p (q_move rfl) ?_
   refine al_appendZ (n := n) (z := 1) (bytes := 8) (zv := (.int .i64 0)) rfl rfl om9 h0 (.z) Tryz.underlying30 Tryz.underlying3 kr9 rfl rfl om9 de9 rfl rfl (fun o_1 g_1 hc_1 => ?_)
   refine ⟨_, (.z), ?_⟩
   refine al_p (q_move rfl) (al_p (q_lenS rfl Tryz.runUnderlying30) (al_p (q_upto (hi := 0) rfl rfl rfl (Nat.zero_le _) Tryz.underlying30 Tryz.sizeOf3) (al_p (q_assign rfl) (al_end (aq_then ?_)))))
   refine ac_seq (ac_region ?_)
   refine al_p (q_move rfl) (al_p (q_assign rfl) (al_end (aq_then ?_)))
   refine ac_ret (ret1 Tryz.results168 rfl (fun w9 hs => ?_))
   exact ⟨o_1, rfl, g_1, by simpa using hs.defer 0⟩
  ·skip
   refine ac_skip (aq_then (ac_seq (ac_region ?_)))
   refine al_p (q_move rfl) (al_p (q_assign rfl) (al_end (aq_then ?_)))
   refine ac_ret (ret1 Tryz.results168 rfl (fun w9 hs => ?_))
   exact ⟨none, rfl, gok.none 1, hs.defer 0⟩
def sl3 (r : Option Addr × Nat × Nat) : List Value := [.slice r.1 r.2.1 r.2.2]
theorem flatten_take {zss : List (List Int)} {k : Nat} {z : List Int} (h : zss[k]? = some z) : (zss.take (k + 1)).flatten = (zss.take k).flatten ++ z := by
 rw [take_snoc h, List.flatten_append]; simp
theorem flatten_take_le (zss : List (List Int)) (k : Nat) : (zss.take k).flatten.length ≤ zss.flatten.length := by
 conv => rhs; rw [← List.take_append_drop k zss, List.flatten_append, List.length_append]
 omega
set_option maxRecDepth 100000 in
theorem concat_any (A0 : Option Addr) (n c0 : Nat) (rows : List (Option Addr × Nat × Nat)) (zss : List (List Int)) (w : World) (hR : IsT 1 sl3 w A0 n rows) (hn : zss.length = n) (hI : ∀ (i : Nat) r z, rows[i]? = some r → zss[i]? = some z → IsT 1 intCells w r.1 r.2.1 z) (hm : zss.flatten.length ≤ 1000000) (hn2 : n ≤ 1000) : Calls Tryz.prog 167 #[(.slice A0 n c0)] w (fun e w' => ∃ A' c, e = .returned (.slice A' zss.flatten.length c) ∧ NewT 1 intCells w.heap.size w' A' zss.flatten.length c zss.flatten ∧ Below w.heap.size w w') := by
 refine calls_ax (vs := [(.slice A0 n c0)]) Tryz.func167 rfl rfl ?_
 refine ac_seq (ac_region ?_)
 refine al_p (q_assign rfl) (al_end (aq_then ?_))
 refine ac_seq (ac_region ?_)
 refine al_p (q_assign rfl) (al_end (aq_then ?_))
 refine ac_seq (ac_seq (ac_region ?_))
 refine al_p (q_move rfl) (al_p (q_lenS rfl Tryz.runUnderlying106) (al_p (q_move rfl) (al_end (aq_then ?_))))
 refine ac_block ?_
 refine ac_loop (β := Nat) (fun x => x ≤ n) (fun x => [(0, (.slice A0 n c0)), (2, (.slice none 0 0)), (3, (.int .i64 (((zss.take x).flatten).length : Int))), (9, (.slice A0 n c0)), (10, (.int .i64 (n : Int))), (11, (.int .i64 (x : Int)))]) (fun _ => _) (fun x => []) (fun x => n - x) 0 om9 ⟨rfl, rfl, rfl, rfl, rfl, rfl, trivial⟩ (fun w9 hs => hs) (fun x hF1 => ?_)
 refine ac_seq (ac_region ?_)
 refine al_p (q_lss rfl rfl) (al_end (aq_then ?_))
 refine ac_seq ?_
 refine ac_cond rfl (fun h1 => ?_) (fun h1 => ?_)
 ·have hxl : x < n := by have := of_decide_eq_true h1; omega
  obtain ⟨b01, o01, hA0, hlt0, hget0⟩ := hR.2 om9
  obtain ⟨r, hr⟩ : ∃ r, rows[x]? = some r := ⟨_, List.getElem?_eq_getElem (by rw [hR.1]; exact hxl)⟩
  obtain ⟨z, hz⟩ : ∃ z, zss[x]? = some z := ⟨_, List.getElem?_eq_getElem om9⟩
  have hI := hI x r z hr hz
  have hI1 := hI.1
  have hf1 := flatten_take hz
  have hf2 := flatten_take_le zss (x + 1)
  rw [hf1, List.length_append] at hf2
  refine ac_skip (aq_then (ac_seq (ac_block (ac_seq (ac_region ?_)))))
  refine al_p (q_indexAddrA (i := x) (o01 + x * 1 + 0) hA0 rfl rfl rfl om9 Tryz.runUnderlying106 Tryz.sizeOf30 rfl) (al_p (q_loadX rfl Tryz.isAgg30 (fun w9 hs => (hs.below.cell (p := ⟨_, _, none⟩) hlt0).trans ((hget0 x _ hr) 0 _ rfl))) (al_p (q_assign rfl) (al_end (aq_then ?_))))
  refine ac_seq (ac_region ?_)
  refine al_p (q_move rfl) (al_p (q_move rfl) (al_p (q_lenS rfl Tryz.runUnderlying30) ?_))
  refine al_p (q_add rfl rfl om9) (al_p (q_assign rfl) (al_end (aq_then ?_)))
  refine ac_seq (ac_region ?_)
  refine al_p (q_move rfl) (al_p (q_lss rfl rfl) (al_end (aq_then ?_)))
  refine ac_cond rfl (fun h2 => ?_) (fun h2 => ?_)
  ·exfalso; have := of_decide_eq_true h2; omega
  ·skip
   refine ac_skip (aq_inN (aq_then (ac_region ?_)))
   refine al_p (q_add rfl rfl om9) (al_p (q_move rfl) (al_end (aq_then ?_)))
   skip
   refine aq_round (x + 1) om9 om9 ⟨rfl, rfl, (by rw [hf1, List.length_append, hI1]; rfl), rfl, rfl, rfl, trivial⟩ (fun w9 hs => hs)
 ·have hxe : x = n := by have := of_decide_eq_false h1; omega
  have hfl : (zss.take x).flatten = zss.flatten := by rw [hxe, ← hn, List.take_length]
  refine ac_exit (aq_thenE (aq_thenE (aq_hit (aq_then ?_))))
  refine ac_seq (ac_region ?_)
  refine al_p (q_move rfl) (al_callS Tryz.call168 (.cons rfl (.cons rfl .nil)) rfl rfl (fun w1 hs1 => ?_))
  refine (grow_nil (zss.take x).flatten.length _ (by rw [hfl]; exact hm)).mono ?_
  rintro e u1 ⟨o_0, rfl, g_0, hb_1⟩
  refine ⟨_, _, _, rfl, hs1.giftT hb_1, ?_⟩
  refine al_p (q_assign rfl) (al_end (aq_then ?_))
  refine ac_seq (ac_seq (ac_region ?_))
  refine al_p (q_move rfl) (al_p (q_lenS rfl Tryz.runUnderlying106) (al_p (q_move rfl) (al_end (aq_then ?_))))
  refine ac_block ?_
  refine ac_loop (β := Nat × Gr × List Value) (fun y => y.1 ≤ n ∧ gok y.2.1 ((zss.take y.1).flatten).length 1 y.2.2 ∧ y.2.2 = ((zss.take y.1).flatten).map (Value.int .i64)) (fun y => [(2, (.slice none 0 0)), (6, (.slice (gA y.2.1) ((zss.take y.1).flatten).length (gC y.2.1))), (25, (.slice A0 n c0)), (26, (.int .i64 (n : Int))), (27, (.int .i64 (y.1 : Int)))]) (fun _ => []) (fun y => (gt y.2.1 y.2.2 ++ ([]))) (fun y => n - y.1) (0, o_0, []) ⟨by simp, g_0, by simp⟩ ⟨rfl, rfl, rfl, rfl, rfl, trivial⟩ (fun w9 hs => (by rw [List.append_nil]; exact hs)) (fun y hF2 => ?_)
  obtain ⟨hyn, hgy, hcy⟩ := hF2
  refine ac_seq (ac_region ?_)
  refine al_p (q_lss rfl rfl) (al_end (aq_then ?_))
  refine ac_seq ?_
  refine ac_cond rfl (fun h3 => ?_) (fun h3 => ?_)
  ·have hxl : y.1 < n := by have := of_decide_eq_true h3; omega
   obtain ⟨b01, o01, hA0, hlt0, hget0⟩ := hR.2 om9
   obtain ⟨r, hr⟩ : ∃ r, rows[y.1]? = some r := ⟨_, List.getElem?_eq_getElem (by rw [hR.1]; exact hxl)⟩
   obtain ⟨z, hz⟩ : ∃ z, zss[y.1]? = some z := ⟨_, List.getElem?_eq_getElem om9⟩
   have hI := hI y.1 r z hr hz
   have hI1 := hI.1
   have hf1 := flatten_take hz
   have hf2 := flatten_take_le zss (y.1 + 1)
   rw [hf1, List.length_append] at hf2
   refine ac_skip (aq_then (ac_seq (ac_block (ac_seq (ac_region ?_)))))
   refine al_p (q_indexAddrA (i := y.1) (o01 + y.1 * 1 + 0) hA0 rfl rfl rfl om9 Tryz.runUnderlying106 Tryz.sizeOf30 rfl) (al_p (q_loadX rfl Tryz.isAgg30 (fun w9 hs => (hs.below.cell (p := ⟨_, _, none⟩) hlt0).trans ((hget0 y.1 _ hr) 0 _ rfl))) (al_p (q_assign rfl) (al_end (aq_then ?_))))
   refine ac_region (al_p (q_move rfl) (al_p (q_move rfl) ?_))
   refine al_grow (z := 1) (bytes := 8) (zv := (.int .i64 0)) (o := y.2.1) (cs := y.2.2) (vs := (z.flatMap intCells)) rfl rfl (.z) hgy (Sor.list (enc := intCells) (zs := z) (fun _ => rfl) (fun _ => rfl) hI1 (fun w9 hs => hI.below hs.below)) Tryz.underlying30 kr9 rfl om9 de9 rfl rfl (fun o_1 g_1 => ?_)
   refine ⟨_, (.z), ?_⟩
   refine al_p (q_assign rfl) (al_end (aq_inN (aq_then (ac_region ?_))))
   refine al_p (q_add rfl rfl om9) (al_p (q_move rfl) (al_end (aq_then ?_)))
   skip
   refine aq_round ((y.1 + 1, o_1, y.2.2 ++ z.flatMap intCells)) (by simp only; omega) ⟨by simp only; omega, by simp only; rw [hf1, List.length_append, hI1]; exact g_1, by simp only; rw [hf1, hcy, List.map_append, flat_int]⟩ ⟨rfl, (by simp only; rw [hf1, List.length_append, hI1]; rfl), rfl, rfl, rfl, trivial⟩ (fun w9 hs => hs)
  ·have hye : y.1 = n := by have := of_decide_eq_false h3; omega
   have hfl2 : (zss.take y.1).flatten = zss.flatten := by rw [hye, ← hn, List.take_length]
   refine ac_exit (aq_thenE (aq_thenE (aq_hit (aq_then ?_))))
   refine ac_seq (ac_region ?_)
   refine al_p (q_move rfl) (al_p (q_assign rfl) (al_end (aq_then ?_)))
   refine ac_ret (ret1 Tryz.results167 rfl (fun w9 hs => ?_))
   rw [hfl2] at hcy hgy
   exact ⟨gA y.2.1, gC y.2.1, by rw [hfl2], hs.grown (enc := intCells) (o := y.2.1) (cs := y.2.2) (fun _ => rfl) (fun u hu => by simp [hu]) hgy (by rw [hcy, flat_int]) rfl, hs.below⟩
end
end Go.Proofs.YthggkidiidnaoaaGreat
