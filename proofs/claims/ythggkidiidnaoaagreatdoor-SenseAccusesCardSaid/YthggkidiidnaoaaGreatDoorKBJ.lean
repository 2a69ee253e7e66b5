import Derived.Test.YthggkidiidnaoaaGreatDoorKAM
import Derived.Test.YthggkidiidnaoaaGreatDoorKAQ
import Derived.Test.YthggkidiidnaoaaGreatDoorKAR
import Derived.Test.YthggkidiidnaoaaGreatDoorKAX
import Derived.Test.YthggkidiidnaoaaGreatDoorKAY
import Derived.Test.YthggkidiidnaoaaGreatDoorKBC
import Derived.Test.YthggkidiidnaoaaGreatDoorKBD
import Derived.Test.YthggkidiidnaoaaGreatDoorKBG
import Derived.Test.YthggkidiidnaoaaGreatDoorRows
import Derived.KernelRfl
import Derived.Laws.StructEq
namespace Go.Proofs.YthggkidiidnaoaaGreatDoor
set_option linter.unusedVariables false
set_option linter.unusedSimpArgs false
section
open Go.RowKit
theorem snc_bl_apiCurrents_0_1_2 (a0 a1 a2 : Value) (ha0 : a0.oneCell' = true) (ha1 : a1.oneCell' = true) (ha2 : a2.oneCell' = true) : ∀ w, (Instr.build 32 #[(0, a0), (1, a1), (2, a2)]).run Tryz.prog w = .ok (.agg #[a0, a1, a2]) w := by
 have ea0 : a0.cells = #[a0] := cells_one ha0
 have ea1 : a1.cells = #[a1] := cells_one ha1
 have ea2 : a2.cells = #[a2] := cells_one ha2
 intro w; simp [Instr.build, Instr.fill, cells_agg, Tryz.runUnderlying32, Tryz.zeroValue32, Tryz.sizeOf30, ea0, ea1, ea2]
set_option maxRecDepth 100000 in
theorem rQuiet9_ok (R : MachR) (M : MachD) (w : World) (hM : IsM w R M) (hc : checkC M = 0) : Calls Tryz.prog 96 #[(.agg (machCells R M))] w (fun e w' => ∃ b1 b2 b3, e = .returned (.agg #[.slice (some ⟨b1, 0, none⟩) R.la R.la, .slice (some ⟨b2, 0, none⟩) R.lb R.lb, .slice (some ⟨b3, 0, none⟩) (M.grid.nr * M.grid.nz).toNat (M.grid.nr * M.grid.nz).toNat]) ∧ Own w [(b1, .cells (List.replicate R.la (.int .i64 0))), (b2, .cells (List.replicate R.lb (.int .i64 0))), (b3, .cells (List.replicate (M.grid.nr * M.grid.nz).toNat (.int .i64 0)))] w') := by
 have hs0 := sound_of hc
 have hg := cells_fine hs0.grid
 have hsc := hs0.coils.1
 have hss := hs0.shells.1
 have ga := hM.coils.1
 have gb := hM.shells.1
 have hcn : cellsN M = M.grid.nr * M.grid.nz := by simp [cellsN, hc]
 refine calls_ax (vs := [(.agg (machCells R M))]) Tryz.func96 rfl rfl ?_
 refine ac_seq (ac_region ?_)
 refine al_new (fun b => .pointer (some ⟨b, 0, none⟩)) (r_box rfl rfl) rfl rfl rfl ?_
 intro b1
 refine al_new (fun b => .pointer (some ⟨b, 0, none⟩)) (r_alloc Tryz.zeroValue32 rfl) rfl rfl rfl ?_
 intro b2
 refine al_end (aq_then ?_)
 refine ac_seq (ac_seq (ac_region ?_))
 refine al_p (q_loadAll (i := 1) rfl rfl Tryz.isAgg29 Tryz.sizeOf29 rfl) (al_call Tryz.call57 (.cons rfl .nil) rfl rfl (fun w1 hs1 => ?_))
 refine (rcheck_any R M _ (hM.below hs1.below)).mono ?_
 rintro e u1 ⟨rfl, hb_1⟩
 refine ⟨_, rfl, hb_1, ?_⟩
 clear hs1
 refine al_p (q_neq rfl rfl) (al_end (aq_then ?_))
 refine ac_cond rfl (fun h1 => ?_) (fun h1 => ?_)
 ·exact absurd h1 (by simp [hc])
 ·refine ac_skip (aq_then (ac_seq (ac_draw 12 (by kernel_rfl) (by kernel_rfl) ?_)))
  refine ah_share (fuel' := 1) (listed' := #[true, true, true, true, true, true, true, true, true, true, true, true, false]) (fun K => ∀ (b1001 : Nat), ∀ (b4001 : Nat), ∀ (b18001 : Nat), K [(2, (.pointer (some ⟨b2, 0, none⟩))), (18, (.agg #[(.slice (some ⟨b1001, 0, none⟩) (R.la) (R.la)), (.slice (some ⟨b4001, 0, none⟩) (R.lb) (R.lb)), (.slice (some ⟨b18001, 0, none⟩) ((M.grid.nr * M.grid.nz).toNat) ((M.grid.nr * M.grid.nz).toNat))]))] [(b18001, .cells ((List.replicate ((M.grid.nr * M.grid.nz).toNat) ((.int .i64 0))))), (b4001, .cells ((List.replicate (R.lb) ((.int .i64 0))))), (b1001, .cells ((List.replicate (R.la) ((.int .i64 0))))), (b2, .cells [(.slice none 0 0), (.slice none 0 0), (.slice none 0 0)]), (b1, .cells (machCells R M).toList)]) ?_ (fun hS1_0 => ?_)
  ·intro b1001 b4001 b18001
   refine ah_one 12 rfl (by kernel_rfl) (fun hok1 hcl1 => ?_)
   refine al_storeAll (i := 3) rfl rfl rfl rfl Tryz.sizeOf32 rfl rfl .k3 rfl (al_end (ah_last (by kernel_rfl) ?_))
   refine aq_then (ac_ret (retR Tryz.results96 (.agg (i := 3) rfl rfl Tryz.isAgg32 Tryz.sizeOf32 rfl .nil) .one (fun w9 hs => ?_)))
   exact ⟨b1001, b4001, b18001, rfl, hs.own (.cons (j := 2) rfl (.cons (j := 1) rfl (.cons (j := 0) rfl .nil))) (by decide)⟩
  refine ah_share (fuel' := 3) (listed' := #[true, true, true, true, true, true, true, true, true, true, false, false, false]) (fun K => ∀ (b1001 : Nat), ∀ (b4001 : Nat), K [(2, (.pointer (some ⟨b2, 0, none⟩))), (10, (.slice (some ⟨b1001, 0, none⟩) (R.la) (R.la))), (14, (.slice (some ⟨b4001, 0, none⟩) (R.lb) (R.lb))), (16, (.int .i64 (cellsN M)))] [(b4001, .cells ((List.replicate (R.lb) ((.int .i64 0))))), (b1001, .cells ((List.replicate (R.la) ((.int .i64 0))))), (b2, .cells [(.slice none 0 0), (.slice none 0 0), (.slice none 0 0)]), (b1, .cells (machCells R M).toList)]) ?_ (fun hS1_1 => ?_)
  ·intro b1001 b4001
   refine ah_one 10 rfl (by kernel_rfl) (fun hok2 hcl2 => ?_)
   refine al_makeInts (n := (M.grid.nr * M.grid.nz).toNat) (z := (.int .i64 0)) (bytes := 8) rfl rfl (by rw [hcn]; congr 1; omega) Tryz.underlying30 (by kernel_rfl) rfl (by omega) (by decide) rfl rfl ?_
   intro b3
   refine al_end (ah_back hok2 hcl2 (fun w9 hs => (hs.tail 3 rfl)) ?_)
   refine ah_t 11 (fun w9 hs => (hs.tail 3 rfl)) rfl rfl (by kernel_rfl) (q_build (.cons rfl (.cons rfl (.cons rfl .nil))) (snc_bl_apiCurrents_0_1_2 _ _ _ rfl rfl rfl)) ?_
   exact ah_to (hS1_0 b1001 b4001 b3) rfl (by kernel_rfl) ⟨rfl, rfl, trivial⟩ (fun w9 hs => hs)
  refine ah_share (fuel' := 3) (listed' := #[true, true, true, true, true, true, true, false, true, true, true, false, false]) (fun K => ∀ (b1001 : Nat), ∀ (b13001 : Nat), K [(2, (.pointer (some ⟨b2, 0, none⟩))), (10, (.slice (some ⟨b1001, 0, none⟩) (R.la) (R.la))), (13, (.int .i64 (R.lb : Int))), (17, (.slice (some ⟨b13001, 0, none⟩) ((M.grid.nr * M.grid.nz).toNat) ((M.grid.nr * M.grid.nz).toNat)))] [(b13001, .cells ((List.replicate ((M.grid.nr * M.grid.nz).toNat) ((.int .i64 0))))), (b1001, .cells ((List.replicate (R.la) ((.int .i64 0))))), (b2, .cells [(.slice none 0 0), (.slice none 0 0), (.slice none 0 0)]), (b1, .cells (machCells R M).toList)]) ?_ (fun hS1_2 => ?_)
  ·intro b1001 b13001
   refine ah_one 7 rfl (by kernel_rfl) (fun hok3 hcl3 => ?_)
   refine al_makeInts (n := R.lb) (z := (.int .i64 0)) (bytes := 8) rfl rfl rfl Tryz.underlying30 (by kernel_rfl) rfl (by omega) (by decide) rfl rfl ?_
   intro b4
   refine al_end (ah_back hok3 hcl3 (fun w9 hs => (hs.tail 3 rfl)) ?_)
   refine ah_t 11 (fun w9 hs => (hs.tail 3 rfl)) rfl rfl (by kernel_rfl) (q_build (.cons rfl (.cons rfl (.cons rfl .nil))) (snc_bl_apiCurrents_0_1_2 _ _ _ rfl rfl rfl)) ?_
   exact ah_to (hS1_0 b1001 b4 b13001) rfl (by kernel_rfl) ⟨rfl, rfl, trivial⟩ (fun w9 hs => hs.pm (.cons (.there (.here)) (.refl)))
  refine ah_share (fuel' := 3) (listed' := #[true, true, true, false, true, true, true, true, true, true, true, false, false]) (fun K => ∀ (b2001 : Nat), ∀ (b15001 : Nat), K [(2, (.pointer (some ⟨b2, 0, none⟩))), (9, (.int .i64 (R.la : Int))), (14, (.slice (some ⟨b2001, 0, none⟩) (R.lb) (R.lb))), (17, (.slice (some ⟨b15001, 0, none⟩) ((M.grid.nr * M.grid.nz).toNat) ((M.grid.nr * M.grid.nz).toNat)))] [(b15001, .cells ((List.replicate ((M.grid.nr * M.grid.nz).toNat) ((.int .i64 0))))), (b2001, .cells ((List.replicate (R.lb) ((.int .i64 0))))), (b2, .cells [(.slice none 0 0), (.slice none 0 0), (.slice none 0 0)]), (b1, .cells (machCells R M).toList)]) ?_ (fun hS1_3 => ?_)
  ·intro b2001 b15001
   refine ah_one 3 rfl (by kernel_rfl) (fun hok4 hcl4 => ?_)
   refine al_makeInts (n := R.la) (z := (.int .i64 0)) (bytes := 8) rfl rfl rfl Tryz.underlying30 (by kernel_rfl) rfl (by omega) (by decide) rfl rfl ?_
   intro b5
   refine al_end (ah_back hok4 hcl4 (fun w9 hs => (hs.tail 3 rfl)) ?_)
   refine ah_t 11 (fun w9 hs => (hs.tail 3 rfl)) rfl rfl (by kernel_rfl) (q_build (.cons rfl (.cons rfl (.cons rfl .nil))) (snc_bl_apiCurrents_0_1_2 _ _ _ rfl rfl rfl)) ?_
   exact ah_to (hS1_0 b5 b2001 b15001) rfl (by kernel_rfl) ⟨rfl, rfl, trivial⟩ (fun w9 hs => hs.pm (.cons (.there (.here)) ( .cons (.there (.here)) (.refl))))
  refine ah_share (fuel' := 4) (listed' := #[true, true, true, true, true, true, true, true, true, false, false, false, false]) (fun K => ∀ (b1001 : Nat), ∀ (b4001 : Nat), K [(2, (.pointer (some ⟨b2, 0, none⟩))), (10, (.slice (some ⟨b1001, 0, none⟩) (R.la) (R.la))), (14, (.slice (some ⟨b4001, 0, none⟩) (R.lb) (R.lb))), (15, (.agg (machCells R M)))] [(b4001, .cells ((List.replicate (R.lb) ((.int .i64 0))))), (b1001, .cells ((List.replicate (R.la) ((.int .i64 0))))), (b2, .cells [(.slice none 0 0), (.slice none 0 0), (.slice none 0 0)]), (b1, .cells (machCells R M).toList)]) ?_ (fun hS1_4 => ?_)
  ·intro b1001 b4001
   refine ah_one 9 rfl (by kernel_rfl) (fun hok5 hcl5 => ?_)
   refine al_call Tryz.call26 (.cons rfl .nil) rfl rfl (fun w6 hs6 => ?_)
   refine (rcellsN_any R M _ (hM.below hs6.below)).mono ?_
   rintro e u6 ⟨rfl, hb_6⟩
   refine ⟨_, rfl, hb_6, ?_⟩
   clear hs6
   refine al_end (ah_back hok5 hcl5 (fun w9 hs => ((hs.fewer 1 rfl).tail 2 rfl)) ?_)
   refine ah_few ?_
   exact ah_to (hS1_1 b1001 b4001) rfl (by kernel_rfl) ⟨rfl, rfl, rfl, rfl, trivial⟩ (fun w9 hs => hs)
  refine ah_share (fuel' := 4) (listed' := #[true, true, true, true, true, true, true, false, true, true, false, false, false]) (fun K => ∀ (b1001 : Nat), K [(2, (.pointer (some ⟨b2, 0, none⟩))), (10, (.slice (some ⟨b1001, 0, none⟩) (R.la) (R.la))), (13, (.int .i64 (R.lb : Int))), (16, (.int .i64 (cellsN M)))] [(b1001, .cells ((List.replicate (R.la) ((.int .i64 0))))), (b2, .cells [(.slice none 0 0), (.slice none 0 0), (.slice none 0 0)]), (b1, .cells (machCells R M).toList)]) ?_ (fun hS1_5 => ?_)
  ·intro b1001
   refine ah_two 7 10 rfl rfl  (by kernel_rfl) (fun hok6 hcl6 => ?_) (fun hok6 hcl6 => ?_)
   ·refine al_makeInts (n := R.lb) (z := (.int .i64 0)) (bytes := 8) rfl rfl rfl Tryz.underlying30 (by kernel_rfl) rfl (by omega) (by decide) rfl rfl ?_
    intro b6
    refine al_end (ah_back hok6 hcl6 (fun w9 hs => (hs.tail 2 rfl)) ?_)
    exact ah_to (hS1_1 b1001 b6) rfl (by kernel_rfl) ⟨rfl, rfl, rfl, rfl, trivial⟩ (fun w9 hs => hs)
   ·refine al_makeInts (n := (M.grid.nr * M.grid.nz).toNat) (z := (.int .i64 0)) (bytes := 8) rfl rfl (by rw [hcn]; congr 1; omega) Tryz.underlying30 (by kernel_rfl) rfl (by omega) (by decide) rfl rfl ?_
    intro b7
    refine al_end (ah_back hok6 hcl6 (fun w9 hs => (hs.tail 2 rfl)) ?_)
    exact ah_to (hS1_2 b1001 b7) rfl (by kernel_rfl) ⟨rfl, rfl, rfl, rfl, trivial⟩ (fun w9 hs => hs)
  refine ah_share (fuel' := 4) (listed' := #[true, true, true, false, true, true, true, true, true, true, false, false, false]) (fun K => ∀ (b2001 : Nat), K [(2, (.pointer (some ⟨b2, 0, none⟩))), (9, (.int .i64 (R.la : Int))), (14, (.slice (some ⟨b2001, 0, none⟩) (R.lb) (R.lb))), (16, (.int .i64 (cellsN M)))] [(b2001, .cells ((List.replicate (R.lb) ((.int .i64 0))))), (b2, .cells [(.slice none 0 0), (.slice none 0 0), (.slice none 0 0)]), (b1, .cells (machCells R M).toList)]) ?_ (fun hS1_6 => ?_)
  ·intro b2001
   refine ah_two 3 10 rfl rfl  (by kernel_rfl) (fun hok7 hcl7 => ?_) (fun hok7 hcl7 => ?_)
   ·refine al_makeInts (n := R.la) (z := (.int .i64 0)) (bytes := 8) rfl rfl rfl Tryz.underlying30 (by kernel_rfl) rfl (by omega) (by decide) rfl rfl ?_
    intro b8
    refine al_end (ah_back hok7 hcl7 (fun w9 hs => (hs.tail 2 rfl)) ?_)
    exact ah_to (hS1_1 b8 b2001) rfl (by kernel_rfl) ⟨rfl, rfl, rfl, rfl, trivial⟩ (fun w9 hs => hs.pm (.cons (.there (.here)) (.refl)))
   ·refine al_makeInts (n := (M.grid.nr * M.grid.nz).toNat) (z := (.int .i64 0)) (bytes := 8) rfl rfl (by rw [hcn]; congr 1; omega) Tryz.underlying30 (by kernel_rfl) rfl (by omega) (by decide) rfl rfl ?_
    intro b9
    refine al_end (ah_back hok7 hcl7 (fun w9 hs => (hs.tail 2 rfl)) ?_)
    exact ah_to (hS1_3 b2001 b9) rfl (by kernel_rfl) ⟨rfl, rfl, rfl, rfl, trivial⟩ (fun w9 hs => hs)
  ·refine ah_t 0 (fun w9 hs => hs) rfl rfl (by kernel_rfl) (q_fieldAddr 1 rfl Tryz.runUnderlying29 rfl Tryz.sizeOf22 (by decide) rfl) (ah_t 1 (fun w9 hs => hs) rfl rfl (by kernel_rfl) (q_load (i := 1) rfl rfl rfl Tryz.isAgg22) (ah_t 2 (fun w9 hs => hs) rfl rfl (by kernel_rfl) (q_lenS rfl Tryz.runUnderlying22) ?_))
   refine ah_t 4 (fun w9 hs => hs) rfl rfl (by kernel_rfl) (q_fieldAddr 2 rfl Tryz.runUnderlying29 rfl Tryz.sizeOf23 (by decide) rfl) (ah_t 5 (fun w9 hs => hs) rfl rfl (by kernel_rfl) (q_load (i := 1) rfl rfl rfl Tryz.isAgg23) (ah_t 6 (fun w9 hs => hs) rfl rfl (by kernel_rfl) (q_lenS rfl Tryz.runUnderlying23) (ah_t 8 (fun w9 hs => hs) rfl rfl (by kernel_rfl) (q_loadAll (i := 1) rfl rfl Tryz.isAgg29 Tryz.sizeOf29 rfl) ?_)))
   refine ah_three 3 7 9 rfl rfl rfl  (by kernel_rfl) (fun hok8 hcl8 => ?_) (fun hok8 hcl8 => ?_) (fun hok8 hcl8 => ?_)
   ·refine al_makeInts (n := R.la) (z := (.int .i64 0)) (bytes := 8) rfl rfl rfl Tryz.underlying30 (by kernel_rfl) rfl (by omega) (by decide) rfl rfl ?_
    intro b10
    refine al_end (ah_back hok8 hcl8 (fun w9 hs => (hs.tail 1 rfl)) ?_)
    refine ah_two 7 9 rfl rfl  (by kernel_rfl) (fun hok9 hcl9 => ?_) (fun hok9 hcl9 => ?_)
    ·refine al_makeInts (n := R.lb) (z := (.int .i64 0)) (bytes := 8) rfl rfl rfl Tryz.underlying30 (by kernel_rfl) rfl (by omega) (by decide) rfl rfl ?_
     intro b11
     refine al_end (ah_back hok9 hcl9 (fun w9 hs => (hs.tail 2 rfl)) ?_)
     exact ah_to (hS1_4 b10 b11) rfl (by kernel_rfl) ⟨rfl, rfl, rfl, rfl, trivial⟩ (fun w9 hs => hs)
    ·refine al_call Tryz.call26 (.cons rfl .nil) rfl rfl (fun w7 hs7 => ?_)
     refine (rcellsN_any R M _ (hM.below hs7.below)).mono ?_
     rintro e u7 ⟨rfl, hb_7⟩
     refine ⟨_, rfl, hb_7, ?_⟩
     clear hs7
     refine al_end (ah_back hok9 hcl9 (fun w9 hs => ((hs.fewer 1 rfl).tail 1 rfl)) ?_)
     refine ah_few ?_
     exact ah_to (hS1_5 b10) rfl (by kernel_rfl) ⟨rfl, rfl, rfl, rfl, trivial⟩ (fun w9 hs => hs)
   ·refine al_makeInts (n := R.lb) (z := (.int .i64 0)) (bytes := 8) rfl rfl rfl Tryz.underlying30 (by kernel_rfl) rfl (by omega) (by decide) rfl rfl ?_
    intro b12
    refine al_end (ah_back hok8 hcl8 (fun w9 hs => (hs.tail 1 rfl)) ?_)
    refine ah_two 3 9 rfl rfl  (by kernel_rfl) (fun hok10 hcl10 => ?_) (fun hok10 hcl10 => ?_)
    ·refine al_makeInts (n := R.la) (z := (.int .i64 0)) (bytes := 8) rfl rfl rfl Tryz.underlying30 (by kernel_rfl) rfl (by omega) (by decide) rfl rfl ?_
     intro b13
     refine al_end (ah_back hok10 hcl10 (fun w9 hs => (hs.tail 2 rfl)) ?_)
     exact ah_to (hS1_4 b13 b12) rfl (by kernel_rfl) ⟨rfl, rfl, rfl, rfl, trivial⟩ (fun w9 hs => hs.pm (.cons (.there (.here)) (.refl)))
    ·refine al_call Tryz.call26 (.cons rfl .nil) rfl rfl (fun w8 hs8 => ?_)
     refine (rcellsN_any R M _ (hM.below hs8.below)).mono ?_
     rintro e u8 ⟨rfl, hb_8⟩
     refine ⟨_, rfl, hb_8, ?_⟩
     clear hs8
     refine al_end (ah_back hok10 hcl10 (fun w9 hs => ((hs.fewer 1 rfl).tail 1 rfl)) ?_)
     refine ah_few ?_
     exact ah_to (hS1_6 b12) rfl (by kernel_rfl) ⟨rfl, rfl, rfl, rfl, trivial⟩ (fun w9 hs => hs)
   ·refine al_call Tryz.call26 (.cons rfl .nil) rfl rfl (fun w9 hs9 => ?_)
    refine (rcellsN_any R M _ (hM.below hs9.below)).mono ?_
    rintro e u9 ⟨rfl, hb_9⟩
    refine ⟨_, rfl, hb_9, ?_⟩
    clear hs9
    refine al_end (ah_back hok8 hcl8 (fun w9 hs => (hs.fewer 1 rfl)) ?_)
    refine ah_few ?_
    refine ah_three 3 7 10 rfl rfl rfl  (by kernel_rfl) (fun hok11 hcl11 => ?_) (fun hok11 hcl11 => ?_) (fun hok11 hcl11 => ?_)
    ·refine al_makeInts (n := R.la) (z := (.int .i64 0)) (bytes := 8) rfl rfl rfl Tryz.underlying30 (by kernel_rfl) rfl (by omega) (by decide) rfl rfl ?_
     intro b14
     refine al_end (ah_back hok11 hcl11 (fun w9 hs => (hs.tail 1 rfl)) ?_)
     exact ah_to (hS1_5 b14) rfl (by kernel_rfl) ⟨rfl, rfl, rfl, rfl, trivial⟩ (fun w9 hs => hs)
    ·refine al_makeInts (n := R.lb) (z := (.int .i64 0)) (bytes := 8) rfl rfl rfl Tryz.underlying30 (by kernel_rfl) rfl (by omega) (by decide) rfl rfl ?_
     intro b15
     refine al_end (ah_back hok11 hcl11 (fun w9 hs => (hs.tail 1 rfl)) ?_)
     exact ah_to (hS1_6 b15) rfl (by kernel_rfl) ⟨rfl, rfl, rfl, rfl, trivial⟩ (fun w9 hs => hs)
    ·refine al_makeInts (n := (M.grid.nr * M.grid.nz).toNat) (z := (.int .i64 0)) (bytes := 8) rfl rfl (by rw [hcn]; congr 1; omega) Tryz.underlying30 (by kernel_rfl) rfl (by omega) (by decide) rfl rfl ?_
     intro b16
     refine al_end (ah_back hok11 hcl11 (fun w9 hs => (hs.tail 1 rfl)) ?_)
     refine ah_two 3 7 rfl rfl  (by kernel_rfl) (fun hok12 hcl12 => ?_) (fun hok12 hcl12 => ?_)
     ·refine al_makeInts (n := R.la) (z := (.int .i64 0)) (bytes := 8) rfl rfl rfl Tryz.underlying30 (by kernel_rfl) rfl (by omega) (by decide) rfl rfl ?_
      intro b17
      refine al_end (ah_back hok12 hcl12 (fun w9 hs => (hs.tail 2 rfl)) ?_)
      exact ah_to (hS1_2 b17 b16) rfl (by kernel_rfl) ⟨rfl, rfl, rfl, rfl, trivial⟩ (fun w9 hs => hs.pm (.cons (.there (.here)) (.refl)))
     ·refine al_makeInts (n := R.lb) (z := (.int .i64 0)) (bytes := 8) rfl rfl rfl Tryz.underlying30 (by kernel_rfl) rfl (by omega) (by decide) rfl rfl ?_
      intro b18
      refine al_end (ah_back hok12 hcl12 (fun w9 hs => (hs.tail 2 rfl)) ?_)
      exact ah_to (hS1_3 b18 b16) rfl (by kernel_rfl) ⟨rfl, rfl, rfl, rfl, trivial⟩ (fun w9 hs => hs.pm (.cons (.there (.here)) (.refl)))
end
section
open Go.RowKit
end
section
open Go.RowKit
end
end Go.Proofs.YthggkidiidnaoaaGreatDoor
