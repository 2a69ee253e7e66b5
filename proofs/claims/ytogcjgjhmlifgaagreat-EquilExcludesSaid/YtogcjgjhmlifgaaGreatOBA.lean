import Derived.Test.YtogcjgjhmlifgaaGreatOAL
import Derived.Test.YtogcjgjhmlifgaaGreatOAM
import Derived.Test.YtogcjgjhmlifgaaGreatOAR
import Derived.Test.YtogcjgjhmlifgaaGreatOAS
import Derived.Test.YtogcjgjhmlifgaaGreatOAU
import Derived.Test.YtogcjgjhmlifgaaGreatOAV
import Derived.Test.YtogcjgjhmlifgaaGreatOAW
import Derived.Test.YtogcjgjhmlifgaaGreatOAZ
import Derived.Test.YtogcjgjhmlifgaaGreatRows
import Derived.KernelRfl
import Derived.Laws.StructEq
namespace Go.Proofs.YtogcjgjhmlifgaaGreat
set_option linter.unusedVariables false
set_option linter.unusedSimpArgs false
section
open Go.RowKit
theorem from_step {M : MachD} {p : Int × Int} {n : Nat} {x : Int} (h : (fromL M p)[n]? = some x) : ((fromL M p).take (n + 1)).map (Value.int .i64) = ((fromL M p).take n).map (Value.int .i64) ++ [.int .i64 x] := by
  rw [List.take_add_one, h, List.map_append]; rfl
theorem sna_bl_apiPoint_0_1 (a0 a1 : Value) (ha0 : a0.oneCell' = true) (ha1 : a1.oneCell' = true) : ∀ w, (Instr.build 36 #[(0, a0), (1, a1)]).run Tryz.prog w = .ok (.agg #[a0, a1]) w := by
  have ea0 : a0.cells = #[a0] := cells_one ha0
  have ea1 : a1.cells = #[a1] := cells_one ha1
  intro w; simp [Instr.build, Instr.fill, cells_agg, Tryz.runUnderlying36, Tryz.zeroValue36, Tryz.sizeOf3, ea0, ea1]
theorem sna_bs_int_1_0_ (a0 : Value) (ha0 : a0.oneCell' = true) : ∀ w, (Instr.buildSlice 30 1 #[(0, a0)]).run Tryz.prog w = .ok (.slice (some ⟨w.heap.size, 0, none⟩) 1 1) (w.alloc (.cells [a0].toArray 3)) := by
  have ea0 : a0.cells = #[a0] := cells_one ha0
  intro w; (simp [Instr.buildSlice, Instr.fill, cells_agg, newRow, Tryz.runUnderlying30, Tryz.zeroValue3, Tryz.sizeOf3, ea0] <;> (rw [(by kernel_rfl : Array.range 1 = #[0])]; simp [Value.cells]))
set_option maxRecDepth 100000 in
theorem rfrom9_any (R : MachR) (M : MachD) (p0 p1 : Int) (w : World) (hM : IsM w R M) (hc : checkC M = 0) : Calls Tryz.prog 92 #[(.agg (machCells R M)), (.agg #[.int .i64 p0, .int .i64 p1])] w (fun e w' => ∃ A c, e = .returned (.slice A (fromL M (p0, p1)).length c) ∧ NewT 1 intCells w.heap.size w' A (fromL M (p0, p1)).length c (fromL M (p0, p1)) ∧ Below w.heap.size w w') := by
  have hs0 := sound_of hc
  have hg := cells_fine hs0.grid
  have hsc := hs0.coils.1
  have hss := hs0.shells.1
  have hla := hM.coils.1
  have hlb := hM.shells.1
  refine calls_ax (vs := [(.agg (machCells R M)), (.agg #[.int .i64 p0, .int .i64 p1])]) Tryz.func92 rfl rfl ?_
  refine ac_seq (ac_region ?_)
  refine al_new (fun b => .pointer (some ⟨b, 0, none⟩)) (r_box rfl rfl) rfl rfl rfl ?_
  intro b1
  refine al_new (fun b => .pointer (some ⟨b, 0, none⟩)) (r_box rfl rfl) rfl rfl rfl ?_
  intro b2
  refine al_p (q_assign rfl) (al_end (aq_then ?_))
  refine ac_seq (ac_region ?_)
  refine al_p (q_assign rfl) (al_end (aq_then ?_))
  refine ac_seq (ac_seq (ac_region ?_))
  refine al_p (q_assign rfl) (al_end (aq_then ?_))
  refine ac_block ?_
  refine ac_loop (β := Nat × Gr × List Value) (fun k => k.1 ≤ R.la ∧ gok k.2.1 k.1 1 k.2.2 ∧ k.2.2 = ((fromL M (p0, p1)).take k.1).map (Value.int .i64)) (fun k => [(2, (.pointer (some ⟨b1, 0, none⟩))), (3, (.pointer (some ⟨b2, 0, none⟩))), (4, (.slice none 0 0)), (5, (.slice (gA k.2.1) k.1 (gC k.2.1))), (6, (.int .i64 (k.1 : Int)))]) (fun _ => _) (fun k => (b2, _) :: (b1, _) :: (gt k.2.1 k.2.2 ++ ([]))) (fun k => R.la - k.1) (0, none, []) ⟨by simp, gok.none 1, by simp⟩ ⟨rfl, rfl, rfl, rfl, rfl, trivial⟩ (fun w9 hs => (by rw [show gt none [] = [] from rfl, List.nil_append]; exact hs)) (fun k hF1 => ?_)
  obtain ⟨hkn, hgk, hck⟩ := hF1
  refine ac_seq (ac_seq (ac_region ?_))
  refine al_p (q_move rfl) ?_
  refine al_p (q_fieldAddr 1 rfl Tryz.runUnderlying29 rfl Tryz.sizeOf22 (by decide) rfl) (al_p (q_load (i := 1) rfl rfl rfl Tryz.isAgg22) (al_p (q_lenS rfl Tryz.runUnderlying22) (al_p (q_lss rfl rfl) (al_end (aq_then ?_)))))
  refine ac_cond rfl (fun h1 => ?_) (fun h1 => ?_)
  · have hkl : k.1 < R.la := by have := of_decide_eq_true h1; omega
    obtain ⟨b11, o11, hA1, hlt1, hget1⟩ := hM.coils.2 (by omega)
    have hx1 := cA_get (M := M) (k := k.1) (by omega)
    have hx9 := from_coil (p := (p0, p1)) hx1
    have hb9 := from_bd hs0 (p0, p1) _ (List.mem_of_getElem? hx9)
    simp only at hx9 hb9
    refine ac_skip (aq_then (ac_seq (ac_block (ac_drawF 25 (.s (.s .z)) (by kernel_rfl) (by kernel_rfl) ?_))))
    refine ah_t 0 (fun w9 hs => (hs.front (.s (.s (.z))))) rfl rfl (by kernel_rfl) (q_move rfl) ?_
    refine ah_t 1 (fun w9 hs => (hs.front (.s (.s (.z))))) rfl rfl (by kernel_rfl) (q_fieldAddr 1 rfl Tryz.runUnderlying29 rfl Tryz.sizeOf22 (by decide) rfl) (ah_t 2 (fun w9 hs => (hs.front (.s (.s (.z))))) rfl rfl (by kernel_rfl) (q_load (i := 1) rfl rfl rfl Tryz.isAgg22) (ah_t 3 (fun w9 hs => (hs.front (.s (.s (.z))))) rfl rfl (by kernel_rfl) (q_move rfl) ?_))
    refine ah_t 4 (fun w9 hs => (hs.front (.s (.s (.z))))) rfl rfl (by kernel_rfl) (q_indexAddrA (i := k.1) (o11 + k.1 * 8 + 0) hA1 rfl rfl rfl (by omega) Tryz.runUnderlying22 Tryz.sizeOf164 rfl) ?_
    refine ah_t 5 (fun w9 hs => (hs.front (.s (.s (.z))))) rfl rfl (by kernel_rfl) (q_fieldAddr (o11 + k.1 * 8 + 3) rfl Tryz.runUnderlying164 rfl Tryz.sizeOf3 (by decide) rfl) (ah_t 6 (fun w9 hs => (hs.front (.s (.s (.z))))) rfl rfl (by kernel_rfl) (q_loadX rfl Tryz.isAgg3 (fun w9 hs => (hs.below.cell (p := ⟨_, _, none⟩) hlt1).trans ((hget1 k.1 _ hx1) 3 _ rfl))) (ah_t 7 (fun w9 hs => (hs.front (.s (.s (.z))))) rfl rfl (by kernel_rfl) (q_loadAll (i := 0) rfl rfl Tryz.isAgg36 Tryz.sizeOf36 rfl) ?_))
    refine ah_t 8 (fun w9 hs => (hs.front (.s (.s (.z))))) rfl rfl (by kernel_rfl) (q_fieldAddr 1 rfl Tryz.runUnderlying29 rfl Tryz.sizeOf22 (by decide) rfl) (ah_t 9 (fun w9 hs => (hs.front (.s (.s (.z))))) rfl rfl (by kernel_rfl) (q_load (i := 1) rfl rfl rfl Tryz.isAgg22) (ah_t 10 (fun w9 hs => (hs.front (.s (.s (.z))))) rfl rfl (by kernel_rfl) (q_move rfl) ?_))
    refine ah_t 11 (fun w9 hs => (hs.front (.s (.s (.z))))) rfl rfl (by kernel_rfl) (q_indexAddrA (i := k.1) (o11 + k.1 * 8 + 0) hA1 rfl rfl rfl (by omega) Tryz.runUnderlying22 Tryz.sizeOf164 rfl) ?_
    refine ah_t 12 (fun w9 hs => (hs.front (.s (.s (.z))))) rfl rfl (by kernel_rfl) (q_fieldAddr (o11 + k.1 * 8 + 1) rfl Tryz.runUnderlying164 rfl Tryz.sizeOf3 (by decide) rfl) (ah_t 13 (fun w9 hs => (hs.front (.s (.s (.z))))) rfl rfl (by kernel_rfl) (q_loadX rfl Tryz.isAgg3 (fun w9 hs => (hs.below.cell (p := ⟨_, _, none⟩) hlt1).trans ((hget1 k.1 _ hx1) 1 _ rfl))) ?_)
    refine ah_t 14 (fun w9 hs => (hs.front (.s (.s (.z))))) rfl rfl (by kernel_rfl) (q_fieldAddr 1 rfl Tryz.runUnderlying29 rfl Tryz.sizeOf22 (by decide) rfl) (ah_t 15 (fun w9 hs => (hs.front (.s (.s (.z))))) rfl rfl (by kernel_rfl) (q_load (i := 1) rfl rfl rfl Tryz.isAgg22) (ah_t 16 (fun w9 hs => (hs.front (.s (.s (.z))))) rfl rfl (by kernel_rfl) (q_move rfl) ?_))
    refine ah_t 17 (fun w9 hs => (hs.front (.s (.s (.z))))) rfl rfl (by kernel_rfl) (q_indexAddrA (i := k.1) (o11 + k.1 * 8 + 0) hA1 rfl rfl rfl (by omega) Tryz.runUnderlying22 Tryz.sizeOf164 rfl) ?_
    refine ah_t 18 (fun w9 hs => (hs.front (.s (.s (.z))))) rfl rfl (by kernel_rfl) (q_fieldAddr (o11 + k.1 * 8 + 2) rfl Tryz.runUnderlying164 rfl Tryz.sizeOf3 (by decide) rfl) (ah_t 19 (fun w9 hs => (hs.front (.s (.s (.z))))) rfl rfl (by kernel_rfl) (q_loadX rfl Tryz.isAgg3 (fun w9 hs => (hs.below.cell (p := ⟨_, _, none⟩) hlt1).trans ((hget1 k.1 _ hx1) 2 _ rfl))) (ah_t 20 (fun w9 hs => (hs.front (.s (.s (.z))))) rfl rfl (by kernel_rfl) (q_build (.cons rfl (.cons rfl .nil)) (sna_bl_apiPoint_0_1 _ _ rfl rfl)) (ah_one 21 rfl (by kernel_rfl) (fun hok1 hcl1 => ?_))))
    refine al_call Tryz.call147 (.cons rfl (.cons rfl .nil)) rfl rfl (fun w1 hs1 => ?_)
    refine (rinfluence_any p0 p1 (cA M k.1).r (cA M k.1).z _).mono ?_
    rintro e u1 ⟨rfl, hb_1⟩
    refine ⟨_, rfl, hb_1, ?_⟩
    clear hs1
    refine al_end (ah_back hok1 hcl1 (fun w9 hs => ((hs.fewer 1 rfl).front (.s (.s (.z))))) ?_)
    refine ah_t 22 (fun w9 hs => ((hs.fewer 1 rfl).front (.s (.s (.z))))) rfl rfl (by kernel_rfl) (q_mul rfl rfl (by omega)) (ah_one 23 rfl (by kernel_rfl) (fun hok2 hcl2 => ?_))
    refine al_new (fun b => .slice (some ⟨b, 0, none⟩) 1 1) (r_buildSlice (.cons rfl .nil) (sna_bs_int_1_0_ _ rfl)) rfl rfl rfl ?_
    intro b3
    refine al_end (ah_back hok2 hcl2 (fun w9 hs => (((hs.fewer 1 rfl).tail 1 rfl).front (.s (.s (.z))))) ?_)
    refine ah_one 24 rfl (by kernel_rfl) (fun hok3 hcl3 => ?_)
    refine al_grow (z := 1) (bytes := 8) (zv := (.int .i64 0)) (o := k.2.1) (cs := k.2.2) (vs := [.int .i64 ((cA M k.1).turns * infl p0 p1 (cA M k.1).r (cA M k.1).z)]) rfl rfl (.s (.s (.s (.z)))) hgk (Sor.box (j := 0) rfl rfl rfl) Tryz.underlying30 (by kernel_rfl) rfl (by omega) (by decide) rfl rfl (fun o_1 g_1 => ?_)
    refine ⟨_, (.s (.s (.s (.z)))), ?_⟩
    refine al_end (ah_back hok3 hcl3 (fun w9 hs => (((hs.fewer 1 rfl).tail 1 rfl).front (.s (.s (.z))))) ?_)
    refine ah_one 25 rfl (by kernel_rfl) (fun hok4 hcl4 => ?_)
    refine al_p (q_assign rfl) (al_end (ah_last (by kernel_rfl) ?_))
    refine aq_inN (aq_then (ac_region (al_p (q_move rfl) ?_)))
    refine al_p (q_add rfl rfl (by omega)) (al_p (q_assign rfl) (al_end (aq_then ?_)))
    skip
    refine aq_round ((k.1 + 1, o_1, (k.2.2 ++ [.int .i64 ((cA M k.1).turns * infl p0 p1 (cA M k.1).r (cA M k.1).z)]))) (by simp only; omega) ⟨by simp only; omega, g_1, by simp only; rw [hck]; exact (from_step hx9).symm⟩ ⟨rfl, rfl, rfl, rfl, rfl, trivial⟩ (fun w9 hs => ((hs.fewer 1 rfl).tail 1 rfl))
  · have hke1 : k.1 = R.la := by have := of_decide_eq_false h1; omega
    refine ac_exit (aq_thenE (aq_thenE (aq_hit (aq_then ?_))))
    refine ac_seq (ac_seq (ac_region ?_))
    refine al_p (q_assign rfl) (al_end (aq_then ?_))
    refine ac_block ?_
    refine ac_loop (β := Nat × Gr × List Value) (fun k => k.1 ≤ R.lb ∧ gok k.2.1 (R.la + k.1) 1 k.2.2 ∧ k.2.2 = ((fromL M (p0, p1)).take (R.la + k.1)).map (Value.int .i64)) (fun k => [(2, (.pointer (some ⟨b1, 0, none⟩))), (3, (.pointer (some ⟨b2, 0, none⟩))), (4, (.slice none 0 0)), (5, (.slice (gA k.2.1) (R.la + k.1) (gC k.2.1))), (7, (.int .i64 (k.1 : Int)))]) (fun _ => _) (fun k => (b2, _) :: (b1, _) :: (gt k.2.1 k.2.2 ++ ([]))) (fun k => R.lb - k.1) (0, k.2.1, k.2.2) ⟨by simp, by simp only [Nat.add_zero]; rw [← hke1]; exact hgk, by simp only [Nat.add_zero]; rw [← hke1]; exact hck⟩ ⟨rfl, rfl, rfl, (by simp only [Nat.add_zero]; rw [← hke1]; rfl), rfl, trivial⟩ (fun w9 hs => hs) (fun k hF2 => ?_)
    obtain ⟨hkn, hgk, hck⟩ := hF2
    refine ac_seq (ac_seq (ac_region ?_))
    refine al_p (q_move rfl) ?_
    refine al_p (q_fieldAddr 2 rfl Tryz.runUnderlying29 rfl Tryz.sizeOf23 (by decide) rfl) (al_p (q_load (i := 1) rfl rfl rfl Tryz.isAgg23) (al_p (q_lenS rfl Tryz.runUnderlying23) (al_p (q_lss rfl rfl) (al_end (aq_then ?_)))))
    refine ac_cond rfl (fun h2 => ?_) (fun h2 => ?_)
    · have hkl : k.1 < R.lb := by have := of_decide_eq_true h2; omega
      obtain ⟨b21, o21, hA2, hlt2, hget2⟩ := hM.shells.2 (by omega)
      have hx2 := sA_get (M := M) (k := k.1) (by omega)
      have hx9 := from_shell (p := (p0, p1)) hx2
      rw [hla] at hx9
      simp only at hx9
      refine ac_skip (aq_then (ac_seq (ac_block (ac_drawF 18 (.s (.s .z)) (by kernel_rfl) (by kernel_rfl) ?_))))
      refine ah_t 0 (fun w9 hs => (hs.front (.s (.s (.z))))) rfl rfl (by kernel_rfl) (q_move rfl) (ah_t 1 (fun w9 hs => (hs.front (.s (.s (.z))))) rfl rfl (by kernel_rfl) (q_loadAll (i := 0) rfl rfl Tryz.isAgg36 Tryz.sizeOf36 rfl) ?_)
      refine ah_t 2 (fun w9 hs => (hs.front (.s (.s (.z))))) rfl rfl (by kernel_rfl) (q_fieldAddr 2 rfl Tryz.runUnderlying29 rfl Tryz.sizeOf23 (by decide) rfl) (ah_t 3 (fun w9 hs => (hs.front (.s (.s (.z))))) rfl rfl (by kernel_rfl) (q_load (i := 1) rfl rfl rfl Tryz.isAgg23) (ah_t 4 (fun w9 hs => (hs.front (.s (.s (.z))))) rfl rfl (by kernel_rfl) (q_move rfl) ?_))
      refine ah_t 5 (fun w9 hs => (hs.front (.s (.s (.z))))) rfl rfl (by kernel_rfl) (q_indexAddrA (i := k.1) (o21 + k.1 * 4 + 0) hA2 rfl rfl rfl (by omega) Tryz.runUnderlying23 Tryz.sizeOf168 rfl) ?_
      refine ah_t 6 (fun w9 hs => (hs.front (.s (.s (.z))))) rfl rfl (by kernel_rfl) (q_fieldAddr (o21 + k.1 * 4 + 0) rfl Tryz.runUnderlying168 rfl Tryz.sizeOf3 (by decide) rfl) (ah_t 7 (fun w9 hs => (hs.front (.s (.s (.z))))) rfl rfl (by kernel_rfl) (q_loadX rfl Tryz.isAgg3 (fun w9 hs => (hs.below.cell (p := ⟨_, _, none⟩) hlt2).trans ((hget2 k.1 _ hx2) 0 _ rfl))) ?_)
      refine ah_t 8 (fun w9 hs => (hs.front (.s (.s (.z))))) rfl rfl (by kernel_rfl) (q_fieldAddr 2 rfl Tryz.runUnderlying29 rfl Tryz.sizeOf23 (by decide) rfl) (ah_t 9 (fun w9 hs => (hs.front (.s (.s (.z))))) rfl rfl (by kernel_rfl) (q_load (i := 1) rfl rfl rfl Tryz.isAgg23) (ah_t 10 (fun w9 hs => (hs.front (.s (.s (.z))))) rfl rfl (by kernel_rfl) (q_move rfl) ?_))
      refine ah_t 11 (fun w9 hs => (hs.front (.s (.s (.z))))) rfl rfl (by kernel_rfl) (q_indexAddrA (i := k.1) (o21 + k.1 * 4 + 0) hA2 rfl rfl rfl (by omega) Tryz.runUnderlying23 Tryz.sizeOf168 rfl) ?_
      refine ah_t 12 (fun w9 hs => (hs.front (.s (.s (.z))))) rfl rfl (by kernel_rfl) (q_fieldAddr (o21 + k.1 * 4 + 1) rfl Tryz.runUnderlying168 rfl Tryz.sizeOf3 (by decide) rfl) (ah_t 13 (fun w9 hs => (hs.front (.s (.s (.z))))) rfl rfl (by kernel_rfl) (q_loadX rfl Tryz.isAgg3 (fun w9 hs => (hs.below.cell (p := ⟨_, _, none⟩) hlt2).trans ((hget2 k.1 _ hx2) 1 _ rfl))) (ah_t 14 (fun w9 hs => (hs.front (.s (.s (.z))))) rfl rfl (by kernel_rfl) (q_build (.cons rfl (.cons rfl .nil)) (sna_bl_apiPoint_0_1 _ _ rfl rfl)) (ah_one 15 rfl (by kernel_rfl) (fun hok5 hcl5 => ?_))))
      refine al_call Tryz.call147 (.cons rfl (.cons rfl .nil)) rfl rfl (fun w2 hs2 => ?_)
      refine (rinfluence_any p0 p1 (sA M k.1).r (sA M k.1).z _).mono ?_
      rintro e u2 ⟨rfl, hb_2⟩
      refine ⟨_, rfl, hb_2, ?_⟩
      clear hs2
      refine al_end (ah_back hok5 hcl5 (fun w9 hs => ((hs.fewer 1 rfl).front (.s (.s (.z))))) ?_)
      refine ah_one 16 rfl (by kernel_rfl) (fun hok6 hcl6 => ?_)
      refine al_new (fun b => .slice (some ⟨b, 0, none⟩) 1 1) (r_buildSlice (.cons rfl .nil) (sna_bs_int_1_0_ _ rfl)) rfl rfl rfl ?_
      intro b4
      refine al_end (ah_back hok6 hcl6 (fun w9 hs => (((hs.fewer 1 rfl).tail 1 rfl).front (.s (.s (.z))))) ?_)
      refine ah_one 17 rfl (by kernel_rfl) (fun hok7 hcl7 => ?_)
      refine al_grow (z := 1) (bytes := 8) (zv := (.int .i64 0)) (o := k.2.1) (cs := k.2.2) (vs := [.int .i64 (infl p0 p1 (sA M k.1).r (sA M k.1).z)]) rfl rfl (.s (.s (.s (.z)))) hgk (Sor.box (j := 0) rfl rfl rfl) Tryz.underlying30 (by kernel_rfl) rfl (by omega) (by decide) rfl rfl (fun o_2 g_2 => ?_)
      refine ⟨_, (.s (.s (.s (.z)))), ?_⟩
      refine al_end (ah_back hok7 hcl7 (fun w9 hs => (((hs.fewer 1 rfl).tail 1 rfl).front (.s (.s (.z))))) ?_)
      refine ah_one 18 rfl (by kernel_rfl) (fun hok8 hcl8 => ?_)
      refine al_p (q_assign rfl) (al_end (ah_last (by kernel_rfl) ?_))
      refine aq_inN (aq_then (ac_region (al_p (q_move rfl) ?_)))
      refine al_p (q_add rfl rfl (by omega)) (al_p (q_assign rfl) (al_end (aq_then ?_)))
      skip
      refine aq_round ((k.1 + 1, o_2, (k.2.2 ++ [.int .i64 (infl p0 p1 (sA M k.1).r (sA M k.1).z)]))) (by simp only; omega) ⟨by simp only; omega, g_2, by simp only; rw [hck]; exact (from_step hx9).symm⟩ ⟨rfl, rfl, rfl, rfl, rfl, trivial⟩ (fun w9 hs => ((hs.fewer 1 rfl).tail 1 rfl))
    · have hke2 : R.la + k.1 = R.la + R.lb := by have := of_decide_eq_false h2; omega
      refine ac_exit (aq_thenE (aq_thenE (aq_hit (aq_then ?_))))
      refine ac_seq (ac_seq (ac_region ?_))
      refine al_p (q_assign rfl) (al_end (aq_then ?_))
      refine aq_keepL [2, 3, 4, 5, 8] (.cons rfl (.cons rfl (.cons rfl (.cons rfl (.cons rfl .nil))))) ?_
      refine ac_block ?_
      refine ac_loop (β := Nat × Gr × List Value) (fun k => k.1 ≤ (M.grid.nr * M.grid.nz).toNat ∧ gok k.2.1 (R.la + R.lb + k.1) 1 k.2.2 ∧ k.2.2 = ((fromL M (p0, p1)).take (R.la + R.lb + k.1)).map (Value.int .i64)) (fun k => [(2, (.pointer (some ⟨b1, 0, none⟩))), (3, (.pointer (some ⟨b2, 0, none⟩))), (4, (.slice none 0 0)), (5, (.slice (gA k.2.1) (R.la + R.lb + k.1) (gC k.2.1))), (8, (.int .i64 (k.1 : Int)))]) (fun _ => _) (fun k => (b2, _) :: (b1, _) :: (gt k.2.1 k.2.2 ++ ([]))) (fun k => (M.grid.nr * M.grid.nz).toNat - k.1) (0, k.2.1, k.2.2) ⟨by simp, by simp only [Nat.add_zero]; rw [← hke2]; exact hgk, by simp only [Nat.add_zero]; rw [← hke2]; exact hck⟩ ⟨rfl, rfl, rfl, (by simp only [Nat.add_zero]; rw [← hke2]; rfl), rfl, trivial⟩ (fun w9 hs => hs) (fun k hF3 => ?_)
      obtain ⟨hkn, hgk, hck⟩ := hF3
      refine ac_seq (ac_seq (ac_region ?_))
      refine al_p (q_move rfl) ?_
      refine al_p (q_fieldAddr 4 rfl Tryz.runUnderlying29 rfl Tryz.sizeOf26 (by decide) rfl) ?_
      refine al_p (q_fieldAddr 6 rfl Tryz.runUnderlying26 rfl Tryz.sizeOf3 (by decide) rfl) (al_p (q_load (i := 1) rfl rfl rfl Tryz.isAgg3) ?_)
      refine al_p (q_fieldAddr 4 rfl Tryz.runUnderlying29 rfl Tryz.sizeOf26 (by decide) rfl) ?_
      refine al_p (q_fieldAddr 7 rfl Tryz.runUnderlying26 rfl Tryz.sizeOf3 (by decide) rfl) (al_p (q_load (i := 1) rfl rfl rfl Tryz.isAgg3) ?_)
      refine al_p (q_mul rfl rfl (by omega)) (al_p (q_lss rfl rfl) (al_end (aq_then ?_)))
      refine ac_cond rfl (fun h3 => ?_) (fun h3 => ?_)
      · have hkl : k.1 < (M.grid.nr * M.grid.nz).toNat := by have := of_decide_eq_true h3; omega
        have hx9 := from_cell (M := M) (p := (p0, p1)) (k := k.1) (by omega)
        rw [hla, hlb, ← Nat.add_assoc] at hx9
        simp only at hx9
        refine ac_skip (aq_then (ac_seq (ac_block (ac_drawF 8 (.s (.s .z)) (by kernel_rfl) (by kernel_rfl) ?_))))
        refine ah_t 0 (fun w9 hs => (hs.front (.s (.s (.z))))) rfl rfl (by kernel_rfl) (q_move rfl) (ah_t 1 (fun w9 hs => (hs.front (.s (.s (.z))))) rfl rfl (by kernel_rfl) (q_loadAll (i := 0) rfl rfl Tryz.isAgg36 Tryz.sizeOf36 rfl) (ah_t 2 (fun w9 hs => (hs.front (.s (.s (.z))))) rfl rfl (by kernel_rfl) (q_loadAll (i := 1) rfl rfl Tryz.isAgg29 Tryz.sizeOf29 rfl) (ah_t 3 (fun w9 hs => (hs.front (.s (.s (.z))))) rfl rfl (by kernel_rfl) (q_move rfl) (ah_one 4 rfl (by kernel_rfl) (fun hok9 hcl9 => ?_)))))
        refine al_call Tryz.call148 (.cons rfl (.cons rfl .nil)) rfl rfl (fun w3 hs3 => ?_)
        refine (rat_any M.name R.A R.B R.C R.D R.la R.ca R.lb R.cb R.lc R.cc R.ld R.cd M.grid.r M.grid.z M.grid.nr M.grid.nz M.grid.step (k.1 : Int) _ hs0.grid (by omega) (by omega)).mono ?_
        rintro e u3 ⟨rfl, hb_3⟩
        refine ⟨_, rfl, hb_3, ?_⟩
        clear hs3
        refine al_end (ah_back hok9 hcl9 (fun w9 hs => ((hs.fewer 1 rfl).front (.s (.s (.z))))) ?_)
        refine ah_one 5 rfl (by kernel_rfl) (fun hok10 hcl10 => ?_)
        refine al_call Tryz.call147 (.cons rfl (.cons rfl .nil)) rfl rfl (fun w4 hs4 => ?_)
        refine (rinfluence_any p0 p1 (cellR M.grid (k.1 : Int)) (cellZ M.grid (k.1 : Int)) _).mono ?_
        rintro e u4 ⟨rfl, hb_4⟩
        refine ⟨_, rfl, hb_4, ?_⟩
        clear hs4
        refine al_end (ah_back hok10 hcl10 (fun w9 hs => ((hs.fewer 2 rfl).front (.s (.s (.z))))) ?_)
        refine ah_one 6 rfl (by kernel_rfl) (fun hok11 hcl11 => ?_)
        refine al_new (fun b => .slice (some ⟨b, 0, none⟩) 1 1) (r_buildSlice (.cons rfl .nil) (sna_bs_int_1_0_ _ rfl)) rfl rfl rfl ?_
        intro b5
        refine al_end (ah_back hok11 hcl11 (fun w9 hs => (((hs.fewer 2 rfl).tail 1 rfl).front (.s (.s (.z))))) ?_)
        refine ah_one 7 rfl (by kernel_rfl) (fun hok12 hcl12 => ?_)
        refine al_grow (z := 1) (bytes := 8) (zv := (.int .i64 0)) (o := k.2.1) (cs := k.2.2) (vs := [.int .i64 (infl p0 p1 (cellR M.grid (k.1 : Int)) (cellZ M.grid (k.1 : Int)))]) rfl rfl (.s (.s (.s (.z)))) hgk (Sor.box (j := 0) rfl rfl rfl) Tryz.underlying30 (by kernel_rfl) rfl (by omega) (by decide) rfl rfl (fun o_3 g_3 => ?_)
        refine ⟨_, (.s (.s (.s (.z)))), ?_⟩
        refine al_end (ah_back hok12 hcl12 (fun w9 hs => (((hs.fewer 2 rfl).tail 1 rfl).front (.s (.s (.z))))) ?_)
        refine ah_one 8 rfl (by kernel_rfl) (fun hok13 hcl13 => ?_)
        refine al_p (q_assign rfl) (al_end (ah_last (by kernel_rfl) ?_))
        refine aq_inN (aq_then (ac_region (al_p (q_move rfl) ?_)))
        refine al_p (q_add rfl rfl (by omega)) (al_p (q_assign rfl) (al_end (aq_then ?_)))
        skip
        refine aq_round ((k.1 + 1, o_3, (k.2.2 ++ [.int .i64 (infl p0 p1 (cellR M.grid (k.1 : Int)) (cellZ M.grid (k.1 : Int)))]))) (by simp only; omega) ⟨by simp only; omega, g_3, by simp only; rw [hck]; exact (from_step hx9).symm⟩ ⟨rfl, rfl, rfl, rfl, rfl, trivial⟩ (fun w9 hs => ((hs.fewer 2 rfl).tail 1 rfl))
      · have hke3 : R.la + R.lb + k.1 = (fromL M (p0, p1)).length := by have := of_decide_eq_false h3; rw [from_length]; omega
        refine ac_exit (aq_thenE (aq_thenE (aq_hit (aq_then ?_))))
        refine ac_seq (ac_region ?_)
        refine al_p (q_move rfl) (al_p (q_assign rfl) (al_end (aq_then ?_)))
        refine ac_ret (ret1 Tryz.results92 rfl (fun w9 hs => ?_))
        have h9 := hs.grown (enc := intCells) (o := k.2.1) (cs := k.2.2) (zs := (fromL M (p0, p1))) (fun _ => rfl) (fun y hy => by simp [hy]) hgk (by rw [flat_int, hck, List.take_of_length_le (by omega)]) hke3.symm
        rw [hke3] at h9 ⊢
        exact ⟨_, _, rfl, h9, hs.below⟩
end
section
open Go.RowKit Go.Shelf
end
section
open Go.RowKit Go.Shelf
end
section
open Go.RowKit Go.Shelf
end
section
open Go.RowKit
set_option maxRecDepth 100000 in
theorem rw5_any (n a b : Int) (w : World) : Calls Tryz.prog 48 #[(.int .i64 n), (.int .i64 a), (.int .i64 b)] w (Ret (.bool (wthn n a b)) w) := by
  refine calls_ax (vs := [(.int .i64 n), (.int .i64 a), (.int .i64 b)]) Tryz.func48 rfl rfl ?_
  refine ac_seq (ac_region ?_)
  refine al_p (q_assign rfl) (al_end (aq_then ?_))
  refine ac_seq (ac_region ?_)
  refine al_p (q_move rfl) (al_p (q_move rfl) (al_p (q_geq rfl rfl) (al_p (q_move rfl) ?_)))
  refine aq_split 10 rfl (fun hb1 => ?_) (fun hb1 => ?_)
  · refine al_p (q_move rfl) (al_p (q_move rfl) (al_p (q_leq rfl rfl) (al_p (q_pickT rfl rfl) (al_p (q_assign rfl) ?_))))
    refine al_end (aq_then ?_)
    refine ac_ret (ret1 Tryz.results48 rfl (fun w9 hs => ?_))
    refine ⟨?_, hs.below⟩; first | (simp_all [wthn]; done) | (simp_all [wthn]; omega)
  · refine al_skip rfl rfl rfl (al_skip rfl rfl rfl (al_skip rfl rfl rfl (al_p (q_pickF rfl rfl) (al_p (q_assign rfl) ?_))))
    refine al_end (aq_then ?_)
    refine ac_ret (ret1 Tryz.results48 rfl (fun w9 hs => ?_))
    refine ⟨?_, hs.below⟩; first | (simp_all [wthn]; done) | (simp_all [wthn]; omega)
set_option maxRecDepth 100000 in
theorem rtot_any (n : Int) (w : World) : Calls Tryz.prog 49 #[(.int .i64 n)] w (Ret (.bool (wthn n 1 1000000)) w) := by
  refine calls_ax (vs := [(.int .i64 n)]) Tryz.func49 rfl rfl ?_
  refine ac_seq (ac_region ?_)
  refine al_p (q_assign rfl) (al_end (aq_then ?_))
  refine ac_seq (ac_region ?_)
  refine al_p (q_move rfl) (al_call Tryz.call48 (.cons rfl (.cons rfl (.cons rfl .nil))) rfl rfl (fun w1 hs1 => ?_))
  refine (rw5_any n 1 1000000 _).mono ?_
  rintro e u1 ⟨rfl, hb_1⟩
  refine ⟨_, rfl, hb_1, ?_⟩
  clear hs1
  refine al_p (q_assign rfl) (al_end (aq_then ?_))
  refine ac_ret (ret1 Tryz.results49 rfl (fun w9 hs => ?_))
  exact ⟨rfl, hs.below⟩
theorem dotTo_shift (f : Nat → Int) : ∀ n : Nat, dotTo f (n + 1) = f 0 + dotTo (fun i => f (i + 1)) n
  | 0 => by simp [dotTo]
  | n + 1 => by rw [dotTo, dotTo_shift f n, dotTo]; omega
theorem dot_dotTo : ∀ xs ys : List Int, xs.length = ys.length → dot xs ys = dotTo (fun i => iA xs i * iA ys i) xs.length
  | [], [], _ => rfl
  | [], _ :: _, h => by simp at h
  | _ :: _, [], h => by simp at h
  | x :: xs, y :: ys, h => by
    rw [List.length_cons, dotTo_shift]
    simp only [dot]
    rw [dot_dotTo xs ys (by simpa using h)]
    rfl
theorem fl_zero (p : Int × Int) (g : GridD) : fluxP p (cellSrc g [0] 1) = 0 := by
  have h := flux_bdB p (B := 0) (by omega) (cellSrc g [0] 1) (fun s hs' => by
    unfold cellSrc at hs'
    obtain ⟨k, hk, e⟩ := List.mem_map.1 hs'
    rw [List.mem_range] at hk
    have hk0 : k = 0 := by omega
    subst hk0
    rw [← e]; simp)
  omega
theorem kn_dot {M : MachD} {C : CurD} (h : Fit2 M C) (p : PointD) : knP M C p = dotTo (fun k => iA (fromL M (p.r, p.z)) k * iA C.coils k) M.coils.length + dotTo (fun k => iA (fromL M (p.r, p.z)) (M.coils.length + k) * iA C.shells k) M.shells.length := by
  have e : knP M C p = fluxP (p.r, p.z) (List.zipWith (fun c x => ((c.r, c.z), c.turns * x)) M.coils C.coils) + (fluxP (p.r, p.z) (List.zipWith (fun s x => ((s.r, s.z), x)) M.shells C.shells) + fluxP (p.r, p.z) (cellSrc ⟨0, 0, 1, 1, 1⟩ [0] 1)) := by
    unfold knP srcM srcL
    rw [fluxP_append, fluxP_append]
    rfl
  have h1 := dot_flux (p.r, p.z) (M.coils.map fun c => c.turns * infl p.r p.z c.r c.z) C.coils (List.zipWith (fun (c : CoilD) x => ((c.r, c.z), c.turns * x)) M.coils C.coils) (by simp [h.coils.1]) (by simp [h.coils.1]) (fun k a b s ha hb hs => by
    rw [List.getElem?_map, Option.map_eq_some_iff] at ha
    obtain ⟨c, hc, rfl⟩ := ha
    rw [List.getElem?_zipWith, hc, hb] at hs
    cases hs
    dsimp only
    rw [Int.mul_comm c.turns, Int.mul_assoc])
  have h2 := dot_flux (p.r, p.z) (M.shells.map fun c => infl p.r p.z c.r c.z) C.shells (List.zipWith (fun (s : ShellD) x => ((s.r, s.z), x)) M.shells C.shells) (by simp [h.shells.1]) (by simp [h.shells.1]) (fun k a b s ha hb hs => by
    rw [List.getElem?_map, Option.map_eq_some_iff] at ha
    obtain ⟨c, hc, rfl⟩ := ha
    rw [List.getElem?_zipWith, hc, hb] at hs
    cases hs
    rfl)
  rw [e, ← h1, ← h2, fl_zero, dot_dotTo _ _ (by simp [h.coils.1]), dot_dotTo _ _ (by simp [h.shells.1]), Int.add_zero, List.length_map, List.length_map]
  congr 1
  · refine dotTo_ext _ fun k hk => ?_
    congr 1
    unfold iA fromL
    rw [List.getD_eq_getElem?_getD, List.getD_eq_getElem?_getD, List.getElem?_append_left (by simpa using hk)]
  · refine dotTo_ext _ fun k hk => ?_
    congr 1
    unfold iA fromL
    rw [List.getD_eq_getElem?_getD, List.getD_eq_getElem?_getD, List.getElem?_append_right (by simp), List.getElem?_append_left (by simpa using hk)]
    simp
theorem rfrom9p (R : MachR) (M : MachD) (p : PointD) (w : World) (hM : IsM w R M) (hc : checkC M = 0) : Calls Tryz.prog 92 #[.agg (mCs R M).toArray, .agg #[.int .i64 p.r, .int .i64 p.z]] w (fun e w' => ∃ A c, e = .returned (.slice A (fromL M (p.r, p.z)).length c) ∧ NewT 1 intCells w.heap.size w' A (fromL M (p.r, p.z)).length c (fromL M (p.r, p.z)) ∧ Below w.heap.size w w') := rfrom9_any R M p.r p.z w hM hc
theorem rvalid5_any (R : MachR) (M : MachD) (Q : CurR) (C : CurD) (w : World) (hM : IsM w R M) (hC : IsC w Q C) : Calls Tryz.prog 30 #[.agg (mCs R M).toArray, .agg (cCs Q).toArray] w (Ret (.bool (validC M C)) w) := rvalid2_any R M Q C w hM hC
theorem from_iA {M : MachD} (h : checkC M = 0) (p : PointD) {k : Nat} (hk : k < (fromL M (p.r, p.z)).length) : 0 ≤ iA (fromL M (p.r, p.z)) k ∧ iA (fromL M (p.r, p.z)) k ≤ 25000000 := from_bd (sound_of h) (p.r, p.z) _ (iA_mem hk)
theorem sum_bd {f : Nat → Int} {n m : Nat} (hn : n ≤ m) (hm : m ≤ 16) (h : ∀ k, k < m → -25000000000000 ≤ f k ∧ f k ≤ 25000000000000) : -400000000000000 ≤ dotTo f n ∧ dotTo f n ≤ 400000000000000 := by
  have h1 := dotTo_bd (f := f) (B := 25000000000000) n (fun k hk => h k (by omega))
  have h2 := len_mul (n := n) (m := 16) (B := 25000000000000) (by omega) (by omega)
  omega
set_option maxRecDepth 100000 in
theorem rknown_any (R : MachR) (M : MachD) (Q : CurR) (C : CurD) (w : World) (hM : IsM w R M) (hC : IsC w Q C) (p : PointD) (hf : Fit2 M C) : Calls Tryz.prog 45 #[(.agg (mCs R M).toArray), (.agg (cCs Q).toArray), (.agg #[.int .i64 p.r, .int .i64 p.z])] w (Ret (.int .i64 (knP M C p)) w) := by
  have n1 := hM.coils.1
  have n2 := hM.shells.1
  have n3 := hC.coils.1
  have n4 := hC.shells.1
  have hsd := sound_of hf.check
  have q1 : M.coils.length ≤ 16 := by have := hsd.coils.1; omega
  have q2 : M.shells.length ≤ 16 := by have := hsd.shells.1; omega
  have n5 := hf.coils.1
  have n6 := hf.shells.1
  have hfl := from_length M (p.r, p.z)
  have hb1 : ∀ k, k < M.coils.length → -25000000000000 ≤ iA (fromL M (p.r, p.z)) k * iA C.coils k ∧ iA (fromL M (p.r, p.z)) k * iA C.coils k ≤ 25000000000000 := fun k hk => mulP_bd (from_iA hf.check p (by omega)) (hf.coils.2 _ (iA_mem (by omega)))
  have hb2 : ∀ k, k < M.shells.length → -25000000000000 ≤ iA (fromL M (p.r, p.z)) (M.coils.length + k) * iA C.shells k ∧ iA (fromL M (p.r, p.z)) (M.coils.length + k) * iA C.shells k ≤ 25000000000000 := fun k hk => mulP_bd (from_iA hf.check p (by omega)) (hf.shells.2 _ (iA_mem (by omega)))
  refine calls_ax (vs := [(.agg (mCs R M).toArray), (.agg (cCs Q).toArray), (.agg #[.int .i64 p.r, .int .i64 p.z])]) Tryz.func45 rfl rfl ?_
  refine ac_seq (ac_region ?_)
  refine al_new (fun b => .pointer (some ⟨b, 0, none⟩)) (r_box rfl rfl) rfl rfl rfl ?_
  intro b1
  refine al_new (fun b => .pointer (some ⟨b, 0, none⟩)) (r_box rfl rfl) rfl rfl rfl ?_
  intro b2
  refine al_new (fun b => .pointer (some ⟨b, 0, none⟩)) (r_box rfl rfl) rfl rfl rfl ?_
  intro b3
  refine al_p (q_assign rfl) (al_end (aq_then ?_))
  refine ac_seq (ac_region ?_)
  refine al_p (q_loadAll (i := 2) rfl rfl Tryz.isAgg29 Tryz.sizeOf29 rfl) (al_p (q_loadAll (i := 0) rfl rfl Tryz.isAgg36 Tryz.sizeOf36 rfl) (al_call Tryz.call92 (.cons rfl (.cons rfl .nil)) rfl rfl (fun w1 hs1 => ?_)))
  refine (rfrom9p R M p _ (hM.below hs1.below) hf.check).mono ?_
  rintro e u1 ⟨A7, c7, rfl, N7, hb_1⟩
  refine ⟨_, rfl, hb_1, ?_⟩
  clear hs1
  refine al_p (q_assign rfl) (al_end (aq_then ?_))
  refine ac_seq (ac_region ?_)
  refine al_p (q_assign rfl) (al_end (aq_then ?_))
  refine ac_seq (ac_seq (ac_region ?_))
  refine al_p (q_assign rfl) (al_end (aq_then ?_))
  refine ac_block ?_
  refine ac_loop (β := Nat) (fun k => k ≤ R.la) (fun k => [(3, (.pointer (some ⟨b1, 0, none⟩))), (4, (.pointer (some ⟨b2, 0, none⟩))), (6, (.int .i64 0)), (7, (.slice A7 (fromL M (p.r, p.z)).length c7)), (8, (.int .i64 (dotTo (fun k => iA (fromL M (p.r, p.z)) k * iA C.coils k) k))), (9, (.int .i64 (k : Int)))]) (fun _ => _) (fun k => [(b3, _), (b2, _), (b1, _)]) (fun k => R.la - k) 0 (by omega) ⟨rfl, rfl, rfl, rfl, rfl, rfl, trivial⟩ (fun w9 hs => hs) (fun k hF1 => ?_)
  refine ac_seq (ac_seq (ac_region ?_))
  refine al_p (q_move rfl) ?_
  refine al_p (q_fieldAddr 1 rfl Tryz.runUnderlying29 rfl Tryz.sizeOf22 (by decide) rfl) (al_p (q_load (i := 2) rfl rfl rfl Tryz.isAgg22) (al_p (q_lenS rfl Tryz.runUnderlying22) (al_p (q_lss rfl rfl) (al_end (aq_then ?_)))))
  refine ac_cond rfl (fun h1 => ?_) (fun h1 => ?_)
  · have hkn : k < R.la := by have := of_decide_eq_true h1; omega
    obtain ⟨b11, o11, hA1, hlt1, hget1⟩ := hC.coils.2 (by omega)
    have hx1 := iA_get (l := C.coils) (k := k) (by omega)
    obtain ⟨b71, o71, hA7, hlt7, hget7⟩ := N7.isT.2 (by omega)
    have hx7 := iA_get (l := (fromL M (p.r, p.z))) (k := k) (by omega)
    have v7 := from_iA hf.check p (k := k) (by omega)
    have v1 := hf.coils.2 _ (iA_mem (l := C.coils) (k := k) (by omega))
    have v2 := mulP_bd v7 v1
    have v3 := sum_bd (n := k) (by omega) q1 hb1
    refine ac_skip (aq_then (ac_seq (ac_block (ac_draw 12 (by kernel_rfl) (by kernel_rfl) ?_))))
    refine ah_t 0 (fun w9 hs => hs) rfl rfl (by kernel_rfl) (q_move rfl) (ah_t 1 (fun w9 hs => hs) rfl rfl (by kernel_rfl) (q_move rfl) (ah_t 2 (fun w9 hs => hs) rfl rfl (by kernel_rfl) (q_move rfl) ?_))
    refine ah_t 3 (fun w9 hs => hs) rfl rfl (by kernel_rfl) (q_indexAddrA (i := k) (o71 + k * 1 + 0) hA7 rfl rfl rfl (by omega) Tryz.runUnderlying30 Tryz.sizeOf3 rfl) (ah_t 4 (fun w9 hs => hs) rfl rfl (by kernel_rfl) (q_loadX rfl Tryz.isAgg3 (fun w9 hs => (cell_blkx ((hs.snap _ _ (.head _)).2.2.2.1 b71 (N7.new _ _ hA7) hlt7)).trans ((hget7 (k) _ hx7) 0 _ rfl))) ?_)
    refine ah_t 5 (fun w9 hs => hs) rfl rfl (by kernel_rfl) (q_fieldAddr 0 rfl Tryz.runUnderlying32 rfl Tryz.sizeOf30 (by decide) rfl) (ah_t 6 (fun w9 hs => hs) rfl rfl (by kernel_rfl) (q_load (i := 1) rfl rfl rfl Tryz.isAgg30) (ah_t 7 (fun w9 hs => hs) rfl rfl (by kernel_rfl) (q_move rfl) ?_))
    refine ah_t 8 (fun w9 hs => hs) rfl rfl (by kernel_rfl) (q_indexAddrA (i := k) (o11 + k * 1 + 0) hA1 rfl rfl rfl (by omega) Tryz.runUnderlying30 Tryz.sizeOf3 rfl) (ah_t 9 (fun w9 hs => hs) rfl rfl (by kernel_rfl) (q_loadX rfl Tryz.isAgg3 (fun w9 hs => (hs.below.cell (p := ⟨_, _, none⟩) hlt1).trans ((hget1 k _ hx1) 0 _ rfl))) ?_)
    refine ah_t 10 (fun w9 hs => hs) rfl rfl (by kernel_rfl) (q_mul rfl rfl (by omega)) ?_
    refine ah_t 11 (fun w9 hs => hs) rfl rfl (by kernel_rfl) (q_add rfl rfl (by omega)) (ah_one 12 rfl (by kernel_rfl) (fun hok1 hcl1 => ?_))
    refine al_p (q_assign rfl) (al_end (ah_last (by kernel_rfl) ?_))
    refine aq_inN (aq_then (ac_region (al_p (q_move rfl) ?_)))
    refine al_p (q_add rfl rfl (by omega)) (al_p (q_assign rfl) (al_end (aq_then ?_)))
    skip
    refine aq_round (k + 1) (by omega) (by omega) ⟨rfl, rfl, rfl, rfl, rfl, rfl, trivial⟩ (fun w9 hs => hs)
  · have hke : k = M.coils.length := by have := of_decide_eq_false h1; omega
    refine ac_exit (aq_thenE (aq_thenE (aq_hit (aq_then ?_))))
    refine ac_seq (ac_seq (ac_region ?_))
    refine al_p (q_assign rfl) (al_end (aq_then ?_))
    refine ac_block ?_
    refine ac_loop (β := Nat) (fun k => k ≤ R.lb) (fun k => [(3, (.pointer (some ⟨b1, 0, none⟩))), (4, (.pointer (some ⟨b2, 0, none⟩))), (6, (.int .i64 0)), (7, (.slice A7 (fromL M (p.r, p.z)).length c7)), (8, (.int .i64 ((dotTo (fun k => iA (fromL M (p.r, p.z)) k * iA C.coils k) M.coils.length) + (dotTo (fun k => iA (fromL M (p.r, p.z)) (M.coils.length + k) * iA C.shells k) k)))), (10, (.int .i64 (k : Int)))]) (fun _ => _) (fun k => [(b3, _), (b2, _), (b1, _)]) (fun k => R.lb - k) 0 (by omega) ⟨rfl, rfl, rfl, rfl, (by rw [hke]; simp [dotTo]; rfl), rfl, trivial⟩ (fun w9 hs => hs) (fun k hF2 => ?_)
    refine ac_seq (ac_seq (ac_region ?_))
    refine al_p (q_move rfl) ?_
    refine al_p (q_fieldAddr 2 rfl Tryz.runUnderlying29 rfl Tryz.sizeOf23 (by decide) rfl) (al_p (q_load (i := 2) rfl rfl rfl Tryz.isAgg23) (al_p (q_lenS rfl Tryz.runUnderlying23) (al_p (q_lss rfl rfl) (al_end (aq_then ?_)))))
    refine ac_cond rfl (fun h2 => ?_) (fun h2 => ?_)
    · have hkn : k < R.lb := by have := of_decide_eq_true h2; omega
      obtain ⟨b21, o21, hA2, hlt2, hget2⟩ := hC.shells.2 (by omega)
      have hx2 := iA_get (l := C.shells) (k := k) (by omega)
      obtain ⟨b71, o71, hA7, hlt7, hget7⟩ := N7.isT.2 (by omega)
      have hx7 := iA_get (l := (fromL M (p.r, p.z))) (k := R.la + k) (by omega)
      have v7 := from_iA hf.check p (k := R.la + k) (by omega)
      have v1 := hf.shells.2 _ (iA_mem (l := C.shells) (k := k) (by omega))
      have v2 := mulP_bd v7 v1
      have v3 := sum_bd (n := k) (by omega) q2 hb2
      have v4 := sum_bd (n := M.coils.length) (Nat.le_refl _) q1 hb1
      have hla2 : iA (fromL M (p.r, p.z)) (R.la + k) = iA (fromL M (p.r, p.z)) (M.coils.length + k) := by rw [n1]
      refine ac_skip (aq_then (ac_seq (ac_block (ac_draw 16 (by kernel_rfl) (by kernel_rfl) ?_))))
      refine ah_t 0 (fun w9 hs => hs) rfl rfl (by kernel_rfl) (q_move rfl) (ah_t 1 (fun w9 hs => hs) rfl rfl (by kernel_rfl) (q_move rfl) ?_)
      refine ah_t 2 (fun w9 hs => hs) rfl rfl (by kernel_rfl) (q_fieldAddr 1 rfl Tryz.runUnderlying29 rfl Tryz.sizeOf22 (by decide) rfl) (ah_t 3 (fun w9 hs => hs) rfl rfl (by kernel_rfl) (q_load (i := 2) rfl rfl rfl Tryz.isAgg22) (ah_t 4 (fun w9 hs => hs) rfl rfl (by kernel_rfl) (q_lenS rfl Tryz.runUnderlying22) (ah_t 5 (fun w9 hs => hs) rfl rfl (by kernel_rfl) (q_move rfl) ?_)))
      refine ah_t 6 (fun w9 hs => hs) rfl rfl (by kernel_rfl) (q_add rfl rfl (by omega)) ?_
      refine ah_t 7 (fun w9 hs => hs) rfl rfl (by kernel_rfl) (q_indexAddrA (i := (R.la + k)) (o71 + (R.la + k) * 1 + 0) hA7 rfl rfl (by omega) (by omega) Tryz.runUnderlying30 Tryz.sizeOf3 rfl) (ah_t 8 (fun w9 hs => hs) rfl rfl (by kernel_rfl) (q_loadX rfl Tryz.isAgg3 (fun w9 hs => (cell_blkx ((hs.snap _ _ (.head _)).2.2.2.1 b71 (N7.new _ _ hA7) hlt7)).trans ((hget7 ((R.la + k)) _ hx7) 0 _ rfl))) ?_)
      refine ah_t 9 (fun w9 hs => hs) rfl rfl (by kernel_rfl) (q_fieldAddr 1 rfl Tryz.runUnderlying32 rfl Tryz.sizeOf30 (by decide) rfl) (ah_t 10 (fun w9 hs => hs) rfl rfl (by kernel_rfl) (q_load (i := 1) rfl rfl rfl Tryz.isAgg30) (ah_t 11 (fun w9 hs => hs) rfl rfl (by kernel_rfl) (q_move rfl) ?_))
      refine ah_t 12 (fun w9 hs => hs) rfl rfl (by kernel_rfl) (q_indexAddrA (i := k) (o21 + k * 1 + 0) hA2 rfl rfl rfl (by omega) Tryz.runUnderlying30 Tryz.sizeOf3 rfl) (ah_t 13 (fun w9 hs => hs) rfl rfl (by kernel_rfl) (q_loadX rfl Tryz.isAgg3 (fun w9 hs => (hs.below.cell (p := ⟨_, _, none⟩) hlt2).trans ((hget2 k _ hx2) 0 _ rfl))) ?_)
      refine ah_t 14 (fun w9 hs => hs) rfl rfl (by kernel_rfl) (q_mul rfl rfl (by omega)) ?_
      refine ah_t 15 (fun w9 hs => hs) rfl rfl (by kernel_rfl) (q_add rfl rfl (by omega)) (ah_one 16 rfl (by kernel_rfl) (fun hok2 hcl2 => ?_))
      refine al_p (q_assign rfl) (al_end (ah_last (by kernel_rfl) ?_))
      refine aq_inN (aq_then (ac_region (al_p (q_move rfl) ?_)))
      refine al_p (q_add rfl rfl (by omega)) (al_p (q_assign rfl) (al_end (aq_then ?_)))
      skip
      refine aq_round (k + 1) (by omega) (by omega) ⟨rfl, rfl, rfl, rfl, (by simp only [dotTo]; rw [← Int.add_assoc, ← hla2]; rfl), rfl, trivial⟩ (fun w9 hs => hs)
    · have hke2 : k = M.shells.length := by have := of_decide_eq_false h2; omega
      refine ac_exit (aq_thenE (aq_thenE (aq_hit (aq_then ?_))))
      refine ac_seq (ac_region ?_)
      refine al_p (q_move rfl) (al_p (q_assign rfl) (al_end (aq_then ?_)))
      refine ac_ret (ret1 Tryz.results45 rfl (fun w9 hs => ?_))
      rw [kn_dot hf p, ← hke2]; exact ⟨rfl, hs.below⟩
end
end Go.Proofs.YtogcjgjhmlifgaaGreat
