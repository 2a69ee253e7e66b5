import Derived.Test.YtjjajleiladbhaaGreatDoorLAS
import Derived.Test.YtjjajleiladbhaaGreatDoorLAX
import Derived.Test.YtjjajleiladbhaaGreatDoorLBA
import Derived.Test.YtjjajleiladbhaaGreatDoorRows
import Derived.KernelRfl
import Derived.Laws.StructEq
section
/- The specification of layer 2: Kernel, over this seat's translation (written by ax_ke.py). -/
namespace Go.Proofs.YtjjajleiladbhaaGreatDoor
set_option linter.unusedVariables false
set_option linter.unusedSimpArgs false
open Go.RowKit

structure KrS where
  (k : Nat) (o : Gr) (cs : List Value) (G : Boxes) (rows : List (Option Addr × Nat))

theorem rck_bs_int_1_0_ (a0 : Value) (ha0 : a0.oneCell' = true) : ∀ w, (Instr.buildSlice 32 1 #[(0, a0)]).run Tryz.prog w = .ok (.slice (some ⟨w.heap.size, 0, none⟩) 1 1) (w.alloc (.cells [a0].toArray 3)) := by
  have ea0 : a0.cells = #[a0] := cells_one ha0
  intro w; (simp [Instr.buildSlice, Instr.fill, cells_agg, newRow, Tryz.runUnderlying32, Tryz.zeroValue3, Tryz.sizeOf3, ea0] <;> (rw [(by kernel_rfl : Array.range 1 = #[0])]; simp [Value.cells]))

theorem rck_bs_LLint_1_0_ (a0 : Value) (ha0 : a0.oneCell' = true) : ∀ w, (Instr.buildSlice 48 1 #[(0, a0)]).run Tryz.prog w = .ok (.slice (some ⟨w.heap.size, 0, none⟩) 1 1) (w.alloc (.cells [a0].toArray 32)) := by
  have ea0 : a0.cells = #[a0] := cells_one ha0
  intro w; (simp [Instr.buildSlice, Instr.fill, cells_agg, newRow, Tryz.runUnderlying48, Tryz.zeroValue32, Tryz.sizeOf32, ea0] <;> (rw [(by kernel_rfl : Array.range 1 = #[0])]; simp [Value.cells]))

set_option maxRecDepth 100000 in
theorem rkernel_any (R : MachR) (M : MachD) (n : Nat) (w : World) (hM : IsM w R M) (hn : (n : Int) = cellsN M) : Calls Tryz.prog 33 #[(.agg (machCells R M))] w (fun e w' => ∃ (A' : Option Addr) (c : Nat) (rows : List (Option Addr × Nat)), e = .returned (.slice A' n c) ∧ NewK M.grid w.heap.size w' A' n c rows ∧ Below w.heap.size w w') := by
  have hN : cellsN M ≤ 64 := by
    unfold cellsN; split
    · rename_i hc; have := cells_fine (sound_of hc).grid; omega
    · omega
  have hpos : 0 < n → checkC M = 0 ∧ M.grid.Fine := fun h => by
    have h2 := hn
    unfold cellsN at h2; split at h2
    · rename_i hc; exact ⟨hc, (sound_of hc).grid⟩
    · omega
  refine calls_ax (vs := [(.agg (machCells R M))]) Tryz.func33 rfl rfl ?_
  refine ac_seq ?_
  refine ac_region ?_
  refine al_new (fun b => .pointer (some ⟨b, 0, none⟩)) (r_box rfl rfl) rfl rfl rfl ?_
  intro b1
  refine al_q (q_assign rfl) rfl rfl rfl ?_
  refine al_end ?_
  refine aq_then ?_
  refine ac_seq ?_
  refine ac_region ?_
  refine al_q (q_assign rfl) rfl rfl rfl ?_
  refine al_end ?_
  refine aq_then ?_
  refine ac_seq ?_
  refine ac_region ?_
  refine al_q (q_loadAll (i := 0) rfl rfl Tryz.isAgg29 Tryz.sizeOf29 rfl) rfl rfl rfl ?_
  refine al_call Tryz.call23 (.cons rfl .nil) rfl rfl (fun w1 hs1 => ?_)
  refine (rcellsN_any R M _ (hM.below hs1.below)).mono ?_
  rintro e u1 ⟨rfl, hb_1⟩
  refine ⟨_, rfl, hb_1, ?_⟩
  clear hs1
  refine al_q (q_assign rfl) rfl rfl rfl ?_
  refine al_end ?_
  refine aq_then ?_
  refine ac_seq ?_
  refine ac_seq ?_
  refine ac_region ?_
  refine al_q (q_assign rfl) rfl rfl rfl ?_
  refine al_end ?_
  refine aq_then ?_
  refine ac_block ?_
  refine ac_loop (β := KrS) (fun x => x.k ≤ n ∧ gok x.o x.k 1 x.cs ∧ x.cs = x.rows.flatMap (slcs n) ∧ x.rows.length = x.k ∧ RowsIn M.grid n x.G x.rows) (fun x => [(1, (.pointer (some ⟨b1, 0, none⟩))), (2, (.slice none 0 0)), (3, (.slice (gA x.o) x.k (gC x.o))), (4, (.int .i64 (cellsN M))), (5, (.int .i64 (x.k : Int)))]) (fun _ => _) (fun x => (b1, _) :: (gt x.o x.cs ++ (x.G))) (fun x => n - x.k) ⟨0, none, [], [], []⟩ ⟨by simp, gok.none 1, rfl, rfl, fun i r h => by simp at h⟩ ⟨rfl, rfl, rfl, rfl, rfl, trivial⟩ (fun w9 hs => hs) (fun x hF1 => ?_)
  obtain ⟨hxn, hgo, hcx, hrl, hri⟩ := hF1
  refine ac_seq ?_
  refine ac_seq ?_
  refine ac_region ?_
  refine al_q (q_move rfl) rfl rfl rfl ?_
  refine al_q (q_move rfl) rfl rfl rfl ?_
  refine al_q (q_lss rfl rfl) rfl rfl rfl ?_
  refine al_end ?_
  refine aq_then ?_
  refine ac_cond rfl (fun h1 => ?_) (fun h1 => ?_)
  · have hxl : x.k < n := by have := of_decide_eq_true h1; omega
    obtain ⟨hck, hg⟩ := hpos (by omega)
    refine ac_skip ?_
    refine aq_then ?_
    refine ac_seq ?_
    refine ac_block ?_
    refine ac_seq ?_
    refine ac_region ?_
    refine al_q (q_assign rfl) rfl rfl rfl ?_
    refine al_end ?_
    refine aq_then ?_
    refine ac_seq ?_
    refine ac_seq ?_
    refine ac_region ?_
    refine al_q (q_assign rfl) rfl rfl rfl ?_
    refine al_end ?_
    refine aq_then ?_
    refine ac_block ?_
    refine ac_loop (β := Nat × Gr × List Value) (fun y => y.1 ≤ n ∧ gok y.2.1 y.1 1 y.2.2 ∧ y.2.2 = ((rowK M.grid n x.k).take y.1).map (Value.int .i64)) (fun y => [(1, (.pointer (some ⟨b1, 0, none⟩))), (2, (.slice none 0 0)), (3, (.slice (gA x.o) x.k (gC x.o))), (4, (.int .i64 (cellsN M))), (5, (.int .i64 (x.k : Int))), (6, (.slice (gA y.2.1) y.1 (gC y.2.1))), (7, (.int .i64 (y.1 : Int))), (10, (.int .i64 (x.k : Int))), (11, (.int .i64 (cellsN M)))]) (fun _ => _) (fun y => (b1, _) :: (gt y.2.1 y.2.2 ++ (gt x.o x.cs ++ (x.G)))) (fun y => n - y.1) (0, none, []) ⟨by simp, gok.none 1, by simp⟩ ⟨rfl, rfl, rfl, rfl, rfl, rfl, rfl, rfl, rfl, trivial⟩ (fun w9 hs => hs) (fun y hF2 => ?_)
    obtain ⟨hyn, hgy, hcy⟩ := hF2
    refine ac_seq ?_
    refine ac_seq ?_
    refine ac_region ?_
    refine al_q (q_move rfl) rfl rfl rfl ?_
    refine al_q (q_move rfl) rfl rfl rfl ?_
    refine al_q (q_lss rfl rfl) rfl rfl rfl ?_
    refine al_end ?_
    refine aq_then ?_
    refine ac_cond rfl (fun h2 => ?_) (fun h2 => ?_)
    · have hyl : y.1 < n := by have := of_decide_eq_true h2; omega
      refine ac_skip ?_
      refine aq_then ?_
      refine ac_seq ?_
      refine ac_block ?_
      refine ac_drawF 10 (.s .z) (by kernel_rfl) (by kernel_rfl) ?_
      refine ah_take 0 (fun w9 hs => (hs.front (.s (.z)))) rfl rfl rfl (by kernel_rfl) (by kernel_rfl) (by kernel_rfl) (fun _ _ _ h => h) rfl (q_move rfl) ?_
      refine ah_take 1 (fun w9 hs => (hs.front (.s (.z)))) rfl rfl rfl (by kernel_rfl) (by kernel_rfl) (by kernel_rfl) (fun _ _ _ h => h) rfl (q_loadAll (i := 0) rfl rfl Tryz.isAgg29 Tryz.sizeOf29 rfl) ?_
      refine ah_take 2 (fun w9 hs => (hs.front (.s (.z)))) rfl rfl rfl (by kernel_rfl) (by kernel_rfl) (by kernel_rfl) (fun _ _ _ h => h) rfl (q_move rfl) ?_
      refine ah_take 4 (fun w9 hs => (hs.front (.s (.z)))) rfl rfl rfl (by kernel_rfl) (by kernel_rfl) (by kernel_rfl) (fun _ _ _ h => h) rfl (q_loadAll (i := 0) rfl rfl Tryz.isAgg29 Tryz.sizeOf29 rfl) ?_
      refine ah_take 5 (fun w9 hs => (hs.front (.s (.z)))) rfl rfl rfl (by kernel_rfl) (by kernel_rfl) (by kernel_rfl) (fun _ _ _ h => h) rfl (q_move rfl) ?_
      refine ah_one 3 rfl (by kernel_rfl) (fun hok1 hcl1 => ?_)
      refine al_call Tryz.call77 (.cons rfl (.cons rfl .nil)) rfl rfl (fun w2 hs2 => ?_)
      refine (rat_any M.name R.A R.B R.C R.D R.la R.ca R.lb R.cb R.lc R.cc R.ld R.cd M.grid.r M.grid.z M.grid.nr M.grid.nz M.grid.step ((x.k : Int)) _ hg (by omega) (by omega)).mono ?_
      rintro e u2 ⟨rfl, hb_2⟩
      refine ⟨_, rfl, hb_2, ?_⟩
      clear hs2
      refine al_end (ah_back hok1 hcl1 (fun w9 hs => ((hs.fewer 1 rfl).front (.s (.z)))) ?_)
      refine ah_one 6 rfl (by kernel_rfl) (fun hok2 hcl2 => ?_)
      refine al_call Tryz.call77 (.cons rfl (.cons rfl .nil)) rfl rfl (fun w3 hs3 => ?_)
      refine (rat_any M.name R.A R.B R.C R.D R.la R.ca R.lb R.cb R.lc R.cc R.ld R.cd M.grid.r M.grid.z M.grid.nr M.grid.nz M.grid.step ((y.1 : Int)) _ hg (by omega) (by omega)).mono ?_
      rintro e u3 ⟨rfl, hb_3⟩
      refine ⟨_, rfl, hb_3, ?_⟩
      clear hs3
      refine al_end (ah_back hok2 hcl2 (fun w9 hs => ((hs.fewer 2 rfl).front (.s (.z)))) ?_)
      refine ah_one 7 rfl (by kernel_rfl) (fun hok3 hcl3 => ?_)
      refine al_call Tryz.call31 (.cons rfl (.cons rfl .nil)) rfl rfl (fun w4 hs4 => ?_)
      refine (rinfluence_any (cellR M.grid (x.k : Int)) (cellZ M.grid (x.k : Int)) (cellR M.grid (y.1 : Int)) (cellZ M.grid (y.1 : Int)) _).mono ?_
      rintro e u4 ⟨rfl, hb_4⟩
      refine ⟨_, rfl, hb_4, ?_⟩
      clear hs4
      refine al_end (ah_back hok3 hcl3 (fun w9 hs => ((hs.fewer 3 rfl).front (.s (.z)))) ?_)
      refine ah_one 8 rfl (by kernel_rfl) (fun hok4 hcl4 => ?_)
      refine al_new (fun b => .slice (some ⟨b, 0, none⟩) 1 1) (r_buildSlice (.cons rfl .nil) (rck_bs_int_1_0_ _ rfl)) rfl rfl rfl ?_
      intro b2
      refine al_end (ah_back hok4 hcl4 (fun w9 hs => (((hs.fewer 3 rfl).tail 1 rfl).front (.s (.z)))) ?_)
      refine ah_one 9 rfl (by kernel_rfl) (fun hok5 hcl5 => ?_)
      refine al_grow (z := 1) (bytes := 8) (zv := (.int .i64 0)) (o := y.2.1) (cs := y.2.2) (vs := [.int .i64 (infl (cellR M.grid (x.k : Int)) (cellZ M.grid (x.k : Int)) (cellR M.grid (y.1 : Int)) (cellZ M.grid (y.1 : Int)))]) rfl rfl (.s (.s (.z))) hgy (Sor.box (j := 0) rfl rfl rfl) Tryz.underlying32 (by kernel_rfl) rfl (by omega) (by decide) rfl rfl (fun o_1 g_1 => ?_)
      refine ⟨_, (.s (.s (.z))), ?_⟩
      refine al_end (ah_back hok5 hcl5 (fun w9 hs => (((hs.fewer 3 rfl).tail 1 rfl).front (.s (.z)))) ?_)
      refine ah_one 10 rfl (by kernel_rfl) (fun hok6 hcl6 => ?_)
      refine al_q (q_assign rfl) rfl rfl rfl ?_
      refine al_end (ah_last (by kernel_rfl) ?_)
      refine aq_inN ?_
      refine aq_then ?_
      refine ac_region ?_
      refine al_q (q_move rfl) rfl rfl rfl ?_
      refine al_q (q_add rfl rfl (by omega)) rfl rfl rfl ?_
      refine al_q (q_assign rfl) rfl rfl rfl ?_
      refine al_end ?_
      refine aq_then ?_
      skip
      refine aq_round ((y.1 + 1, o_1, y.2.2 ++ [.int .i64 (infl (cellR M.grid (x.k : Int)) (cellZ M.grid (x.k : Int)) (cellR M.grid (y.1 : Int)) (cellZ M.grid (y.1 : Int)))])) (by simp only; omega) ⟨by simp only; omega, g_1, by simp only; rw [hcy, rowK_take M.grid n x.k y.1 hyl]; simp⟩ ⟨rfl, rfl, rfl, rfl, rfl, rfl, rfl, rfl, rfl, trivial⟩ (fun w9 hs => ((hs.fewer 3 rfl).tail 1 rfl))
    · have hye : y.1 = n := by have := of_decide_eq_false h2; omega
      refine ac_exit ?_
      refine aq_thenE ?_
      refine aq_thenE ?_
      refine aq_hit ?_
      refine aq_then ?_
      refine aq_swapT (.s (.z)) (.s (.z)) ?_
      refine ac_region ?_
      refine al_q (q_move rfl) rfl rfl rfl ?_
      refine al_q (q_move rfl) rfl rfl rfl ?_
      refine al_new (fun b => .slice (some ⟨b, 0, none⟩) 1 1) (r_buildSlice (.cons rfl .nil) (rck_bs_LLint_1_0_ _ rfl)) rfl rfl rfl ?_
      intro b3
      refine al_grow (z := 1) (bytes := 24) (zv := (.slice none 0 0)) (o := x.o) (cs := x.cs) (vs := [.slice (gA y.2.1) y.1 (gC y.2.1)]) rfl rfl (.s (.s (.z))) hgo (Sor.box (j := 0) rfl rfl rfl) Tryz.underlying48 (by kernel_rfl) rfl (by omega) (by decide) rfl rfl (fun o_2 g_2 => ?_)
      refine ⟨_, (.s (.s (.z))), ?_⟩
      refine al_q (q_assign rfl) rfl rfl rfl ?_
      refine al_end ?_
      refine aq_inN ?_
      refine aq_then ?_
      refine ac_region ?_
      refine al_q (q_move rfl) rfl rfl rfl ?_
      refine al_q (q_add rfl rfl (by omega)) rfl rfl rfl ?_
      refine al_q (q_assign rfl) rfl rfl rfl ?_
      refine al_end ?_
      refine aq_then ?_
      skip
      refine aq_round (⟨x.k + 1, o_2, x.cs ++ [.slice (gA y.2.1) y.1 (gC y.2.1)], gt y.2.1 y.2.2 ++ x.G, x.rows ++ [(gA y.2.1, gC y.2.1)]⟩) (by simp only; omega) ⟨by simp only; omega, g_2, by simp only; rw [hcx, List.flatMap_append]; simp [slcs, hye], by simp only; rw [List.length_append, hrl]; rfl, RowsIn.snoc hri (by rw [← hye]; exact hye ▸ hgy) (by omega) (by rw [hcy, hye, hrl, List.take_of_length_le (by rw [rowK_length]; exact Nat.le_refl _)])⟩ ⟨rfl, rfl, rfl, rfl, rfl, trivial⟩ (fun w9 hs => (hs.tail 1 rfl))
  · have hxe : x.k = n := by have := of_decide_eq_false h1; omega
    refine ac_exit ?_
    refine aq_thenE ?_
    refine aq_thenE ?_
    refine aq_hit ?_
    refine aq_then ?_
    refine ac_seq ?_
    refine ac_region ?_
    refine al_q (q_move rfl) rfl rfl rfl ?_
    refine al_q (q_assign rfl) rfl rfl rfl ?_
    refine al_end ?_
    refine aq_then ?_
    refine ac_ret ?_
    refine ret1 Tryz.results33 rfl (fun w9 hs => ?_)
    exact ⟨gA x.o, gC x.o, x.rows, by rw [hxe], ⟨by have h9 := hs.grown (enc := slcs n) (o := x.o) (cs := x.cs) (zs := x.rows) (fun _ => rfl) (fun y hy => by simp [hy]) hgo hcx.symm hrl; rw [hxe] at h9; exact h9, fun i r hr => hs.rowK (G := x.G) (fun y hy => by simp [hy]) hri i r hr⟩, hs.below⟩

end Go.Proofs.YtjjajleiladbhaaGreatDoor
end
