import Derived.Test.YtnikdbglpimadaaGreatJAM
import Derived.Test.YtnikdbglpimadaaGreatJAX
import Derived.Test.YtnikdbglpimadaaGreatJBG
import Derived.Test.YtnikdbglpimadaaGreatJBO
import Derived.Test.YtnikdbglpimadaaGreatJBQ
import Derived.Test.YtnikdbglpimadaaGreatRows
import Derived.KernelRfl
import Derived.Laws.StructEq
section
/- Package control: Whole, Fixed on both sides, Holds, over this seat's translation (written by ax_cs5.py). -/
namespace Go.Proofs.YtnikdbglpimadaaGreat
set_option linter.unusedVariables false
set_option linter.unusedSimpArgs false
open Go.RowKit

def whE (M : MachD) (total : Int) : Int := if checkC M = 0 then (if wthn total 1 1000000 = true then 0 else 7) else 1
def whL (M : MachD) (total : Int) : List SpanD := lst (cellN M) (fun _ => (⟨0, total⟩ : SpanD))
def fxE (M : MachD) (C : CurD) : Int := if validC M C = true then 0 else 1
def fxL (C : CurD) : List SpanD := lst C.plasma.length (fun k => (⟨iA C.plasma k, iA C.plasma k⟩ : SpanD))
theorem cellsN_eq {M : MachD} (h : checkC M = 0) : cellsN M = (cellN M : Int) := by
  have := cellN_bd h; unfold cellsN; rw [if_pos h]; unfold cellN at this ⊢; omega
theorem cellsC_eq {M : MachD} (h : checkC M = 0) : cellsC M = (cellN M : Int) := by
  have := cellN_bd h; unfold cellsC; rw [if_pos h]; unfold cellN at this ⊢; omega
theorem mixF_cut {n k : Nat} {F G : Nat → List Value} (hk : k < n) : mixF n k F G = (List.range k).flatMap F ++ (G k ++ (List.range' (k + 1) (n - (k + 1))).flatMap G) := by
  unfold mixF
  rw [range_at hk, List.flatMap_append, List.flatMap_cons, if_neg (by omega)]
  congr 1
  · exact flatMap_ext fun j hj => by rw [if_pos (List.mem_range.1 hj)]
  · congr 1
    exact flatMap_ext fun j hj => by rw [List.mem_range'_1] at hj; rw [if_neg (by omega)]
theorem mixF_cut1 {n k : Nat} {F G : Nat → List Value} (hk : k < n) : mixF n (k + 1) F G = (List.range k).flatMap F ++ (F k ++ (List.range' (k + 1) (n - (k + 1))).flatMap G) := by
  unfold mixF
  rw [range_at hk, List.flatMap_append, List.flatMap_cons, if_pos (by omega)]
  congr 1
  · exact flatMap_ext fun j hj => by rw [if_pos (by have := List.mem_range.1 hj; omega)]
  · congr 1
    exact flatMap_ext fun j hj => by rw [List.mem_range'_1] at hj; rw [if_neg (by omega)]
theorem mixF_set {n k z i : Nat} {F G : Nat → List Value} {v : Value} (hF : ∀ j, (F j).length = z) (hG : ∀ j, (G j).length = z) (hk : k < n) (hi : i < z) (h : F k = (G k).set i v) : (mixF n k F G).set (k * z + i) v = mixF n (k + 1) F G := by
  have hA : ((List.range k).flatMap F).length = k * z := by rw [flatMap_len _ hF, List.length_range]
  rw [mixF_cut hk, mixF_cut1 hk, List.set_append_right _ _ (by omega), hA, Nat.add_sub_cancel_left, List.set_append_left _ _ (by rw [hG]; exact hi), h]
abbrev wmix (n k : Nat) (total : Int) : List Value := mixF n k (fun _ => [.int .i64 0, .int .i64 total]) (fun _ => zS2)
abbrev fmix (n k : Nat) (C : CurD) : List Value := mixF n k (fun j => [.int .i64 (iA C.plasma j), .int .i64 (iA C.plasma j)]) (fun _ => zS2)

set_option maxRecDepth 100000 in
theorem cwhole_any (R : MachR) (M : MachD) (total : Int) (w : World) (hM : IsM w R M) : Calls Tryz.prog 21 #[(.agg (machCells R M)), (.int .i64 total)] w (OutSp w (whE M total) (whL M total)) := by
  refine calls_ax (vs := [(.agg (machCells R M)), (.int .i64 total)]) Tryz.func21 rfl rfl ?_
  refine ac_seq ?_
  refine ac_region ?_
  refine al_new (fun b => .pointer (some ⟨b, 0, none⟩)) (r_box rfl rfl) rfl rfl rfl ?_
  intro b1
  refine al_q (q_assign rfl) rfl rfl rfl ?_
  refine al_q (q_assign rfl) rfl rfl rfl ?_
  refine al_end ?_
  refine aq_then ?_
  refine ac_seq ?_
  refine ac_seq ?_
  refine ac_region ?_
  refine al_q (q_loadAll (i := 0) rfl rfl Tryz.isAgg29 Tryz.sizeOf29 rfl) rfl rfl rfl ?_
  refine al_call Tryz.call50 (.cons rfl .nil) rfl rfl (fun w1 hs1 => ?_)
  refine (check_any R M _ (hM.below hs1.below)).mono ?_
  rintro e u1 ⟨rfl, hb_1⟩
  refine ⟨_, rfl, hb_1, ?_⟩
  clear hs1
  refine al_q (q_neq rfl rfl) rfl rfl rfl ?_
  refine al_end ?_
  refine aq_then ?_
  refine ac_cond rfl (fun h1 => ?_) (fun h1 => ?_)
  · have hck : ¬ checkC M = 0 := by simpa using h1
    have hE : whE M total = 1 := if_neg hck
    refine ac_seq ?_
    refine ac_region ?_
    refine al_q (q_assign rfl) rfl rfl rfl ?_
    refine al_q (q_assign rfl) rfl rfl rfl ?_
    refine al_end ?_
    refine aq_then ?_
    refine ac_ret ?_
    refine aq_thenR ?_
    refine ret2 Tryz.results21 rfl rfl (fun w9 hs => ?_)
    rw [hE]; exact OutSp.bad (by decide) hs.below
  · have hck : checkC M = 0 := by simpa using h1
    have hcn := cellsN_eq hck
    have hcc := cellsC_eq hck
    have hcb := cellN_bd hck
    refine ac_skip ?_
    refine aq_then ?_
    refine ac_seq ?_
    refine ac_seq ?_
    refine ac_region ?_
    refine al_q (q_move rfl) rfl rfl rfl ?_
    refine al_call Tryz.call32 (.cons rfl (.cons rfl (.cons rfl .nil))) rfl rfl (fun w2 hs2 => ?_)
    refine (kwithin_any total 1 1000000 _).mono ?_
    rintro e u2 ⟨rfl, rfl⟩
    refine ⟨_, rfl, (Below.refl _ _), ?_⟩
    clear hs2
    refine al_q (q_not rfl) rfl rfl rfl ?_
    refine al_end ?_
    refine aq_then ?_
    refine ac_cond rfl (fun h2 => ?_) (fun h2 => ?_)
    · have hwm : wthn total 1 1000000 = false := by simpa using h2
      have hE : whE M total = 7 := by unfold whE; rw [if_pos hck, if_neg (by rw [hwm]; decide)]
      refine ac_seq ?_
      refine ac_region ?_
      refine al_q (q_assign rfl) rfl rfl rfl ?_
      refine al_q (q_assign rfl) rfl rfl rfl ?_
      refine al_end ?_
      refine aq_then ?_
      refine ac_ret ?_
      refine aq_thenR ?_
      refine ret2 Tryz.results21 rfl rfl (fun w9 hs => ?_)
      rw [hE]; exact OutSp.bad (by decide) hs.below
    · have hwm : wthn total 1 1000000 = true := by simpa using h2
      have hE : whE M total = 0 := by unfold whE; rw [if_pos hck, if_pos hwm]
      refine ac_skip ?_
      refine aq_then ?_
      refine ac_seq ?_
      refine ac_region ?_
      refine al_q (q_loadAll (i := 0) rfl rfl Tryz.isAgg29 Tryz.sizeOf29 rfl) rfl rfl rfl ?_
      refine al_call Tryz.call51 (.cons rfl .nil) rfl rfl (fun w3 hs3 => ?_)
      refine (mcells_any R M _ (hM.below hs3.below)).mono ?_
      rintro e u3 ⟨rfl, hb_3⟩
      refine ⟨_, rfl, hb_3, ?_⟩
      clear hs3
      refine al_makeAgg (n := (cellN M)) (bytes := 16) (zv := (.agg #[.int .i64 0, .int .i64 0])) [(.int .i64 0), (.int .i64 0)] rfl rfl hcn Tryz.underlying39 (by kernel_rfl) rfl rfl rfl (by omega) (by decide) rfl rfl ?_
      intro b2
      refine al_q (q_assign rfl) rfl rfl rfl ?_
      refine al_end ?_
      refine aq_then ?_
      refine ac_seq ?_
      refine ac_seq ?_
      refine ac_region ?_
      refine al_q (q_move rfl) rfl rfl rfl ?_
      refine al_q (q_lenS rfl Tryz.runUnderlying39) rfl rfl rfl ?_
      refine al_q (q_move rfl) rfl rfl rfl ?_
      refine al_end ?_
      refine aq_then ?_
      refine ac_block ?_
      refine ac_loop (β := Nat) (fun k => k ≤ cellN M) (fun k => [(1, (.int .i64 total)), (4, (.slice none 0 0)), (5, (.int .i64 0)), (6, (.slice (some ⟨b2, 0, none⟩) ((cellN M)) ((cellN M)))), (18, (.int .i64 (((cellN M)) : Int))), (19, (.int .i64 (k : Int)))]) (fun _ => _) (fun k => [(b2, .cells (wmix (cellN M) k total)), (b1, _)]) (fun k => cellN M - k) 0 (by omega) ⟨rfl, rfl, rfl, rfl, rfl, rfl, trivial⟩ (fun w9 hs => (by rw [show wmix (cellN M) 0 total = (List.range (cellN M)).flatMap (fun _ => zS2) from mixF_zero _ _ _]; exact hs)) (fun k hF1 => ?_)
      refine ac_seq ?_
      refine ac_region ?_
      refine al_q (q_lss rfl rfl) rfl rfl rfl ?_
      refine al_end ?_
      refine aq_then ?_
      refine ac_seq ?_
      refine ac_cond rfl (fun h3 => ?_) (fun h3 => ?_)
      · have hkl : k < cellN M := by have := of_decide_eq_true h3; omega
        refine ac_skip ?_
        refine aq_then ?_
        refine ac_seq ?_
        refine ac_block ?_
        refine ac_seq ?_
        refine ac_region ?_
        refine al_q (q_move rfl) rfl rfl rfl ?_
        refine al_q (q_assign rfl) rfl rfl rfl ?_
        refine al_end ?_
        refine aq_then ?_
        refine ac_region ?_
        refine al_q (q_move rfl) rfl rfl rfl ?_
        refine al_q (q_move rfl) rfl rfl rfl ?_
        refine al_q (q_move rfl) rfl rfl rfl ?_
        refine al_q (q_indexAddr (i := k) (0 + k * 2) rfl rfl rfl (by omega) Tryz.runUnderlying39 Tryz.sizeOf44 rfl) rfl rfl rfl ?_
        refine al_q (q_fieldAddr (0 + k * 2 + 1) rfl Tryz.runUnderlying44 rfl Tryz.sizeOf3 (by decide) rfl) rfl rfl rfl ?_
        refine al_store1 (i := 0) rfl rfl rfl rfl Tryz.sizeOf3 (SetAt.ofSet (by rw [mixF_len (z := 2) (fun _ => rfl) (fun _ => rfl)]; omega)) .k0 rfl ?_
        refine al_end ?_
        refine aq_inN ?_
        refine aq_then ?_
        refine ac_region ?_
        refine al_q (q_add rfl rfl (by omega)) rfl rfl rfl ?_
        refine al_q (q_move rfl) rfl rfl rfl ?_
        refine al_end ?_
        refine aq_then ?_
        skip
        refine aq_round (k + 1) (by omega) (by omega) ⟨rfl, rfl, rfl, rfl, rfl, rfl, trivial⟩ (fun w9 hs => (by rw [← show (wmix (cellN M) k total).set (k * 2 + 1) (.int .i64 total) = wmix (cellN M) (k + 1) total from mixF_set (fun _ => rfl) (fun _ => rfl) hkl (by omega) rfl, ← Nat.zero_add (k * 2)]; exact hs))
      · have hke : k = cellN M := by have := of_decide_eq_false h3; omega
        refine ac_exit ?_
        refine aq_thenE ?_
        refine aq_thenE ?_
        refine aq_hit ?_
        refine aq_then ?_
        refine ac_seq ?_
        refine ac_region ?_
        refine al_q (q_move rfl) rfl rfl rfl ?_
        refine al_q (q_assign rfl) rfl rfl rfl ?_
        refine al_q (q_assign rfl) rfl rfl rfl ?_
        refine al_end ?_
        refine aq_then ?_
        refine ac_ret ?_
        refine ret2 Tryz.results21 rfl rfl (fun w9 hs => ?_)
        rw [hE]; exact OutSp.ok (A := some ⟨b2, 0, none⟩) (n := cellN M) (c := cellN M) ⟨isT_box0 (n := 2) (enc := SpanD.cells) (fun _ => rfl) (hs.at 0 rfl) (by rw [hke, wmix, mixF_all, whL, flat_span]; rfl) (by rw [whL, lst_length]), hs.new 0 rfl, by omega, by omega⟩ (by omega) hs.below

theorem csf_bl_apiSpan_1_ (a0 : Value) (ha0 : a0.oneCell' = true) : ∀ w, (Instr.build 44 #[(1, a0)]).run Tryz.prog w = .ok (.agg #[(.int .i64 0), a0]) w := by
  have ea0 : a0.cells = #[a0] := cells_one ha0
  intro w; simp [Instr.build, Instr.fill, cells_agg, Tryz.runUnderlying44, Tryz.zeroValue44, Tryz.sizeOf3, ea0]

theorem csf_bs_apiSpan_1_0_ (c0_0 c0_1 : Value) : ∀ w, (Instr.buildSlice 39 1 #[(0, .agg #[c0_0, c0_1])]).run Tryz.prog w = .ok (.slice (some ⟨w.heap.size, 0, none⟩) 1 1) (w.alloc (.cells [c0_0, c0_1].toArray 44)) := by
  intro w; (simp [Instr.buildSlice, Instr.fill, cells_agg, newRow, Tryz.runUnderlying39, Tryz.zeroValue44, Tryz.sizeOf44] <;> (rw [(by kernel_rfl : Array.range 2 = #[0, 1])]; simp [Value.cells]))

set_option maxRecDepth 100000 in
theorem rwhole7_any (R : MachR) (M : MachD) (total : Int) (w : World) (hM : IsM w R M) : Calls Tryz.prog 22 #[(.agg (machCells R M)), (.int .i64 total)] w (OutSp w (whE M total) (whL M total)) := by
  refine calls_ax (vs := [(.agg (machCells R M)), (.int .i64 total)]) Tryz.func22 rfl rfl ?_
  refine ac_seq ?_
  refine ac_region ?_
  refine al_new (fun b => .pointer (some ⟨b, 0, none⟩)) (r_box rfl rfl) rfl rfl rfl ?_
  intro b1
  refine al_q (q_assign rfl) rfl rfl rfl ?_
  refine al_q (q_assign rfl) rfl rfl rfl ?_
  refine al_end ?_
  refine aq_then ?_
  refine ac_seq ?_
  refine ac_seq ?_
  refine ac_region ?_
  refine al_q (q_loadAll (i := 0) rfl rfl Tryz.isAgg29 Tryz.sizeOf29 rfl) rfl rfl rfl ?_
  refine al_call Tryz.call52 (.cons rfl .nil) rfl rfl (fun w1 hs1 => ?_)
  refine (rcheck_any R M _ (hM.below hs1.below)).mono ?_
  rintro e u1 ⟨rfl, hb_1⟩
  refine ⟨_, rfl, hb_1, ?_⟩
  clear hs1
  refine al_q (q_neq rfl rfl) rfl rfl rfl ?_
  refine al_end ?_
  refine aq_then ?_
  refine ac_cond rfl (fun h1 => ?_) (fun h1 => ?_)
  · have hck : ¬ checkC M = 0 := by simpa using h1
    have hE : whE M total = 1 := if_neg hck
    refine ac_seq ?_
    refine ac_region ?_
    refine al_q (q_assign rfl) rfl rfl rfl ?_
    refine al_q (q_assign rfl) rfl rfl rfl ?_
    refine al_end ?_
    refine aq_then ?_
    refine ac_ret ?_
    refine aq_thenR ?_
    refine ret2 Tryz.results22 rfl rfl (fun w9 hs => ?_)
    rw [hE]; exact OutSp.bad (by decide) hs.below
  · have hck : checkC M = 0 := by simpa using h1
    have hcn := cellsN_eq hck
    have hcc := cellsC_eq hck
    have hcb := cellN_bd hck
    refine ac_skip ?_
    refine aq_then ?_
    refine ac_seq ?_
    refine ac_seq ?_
    refine ac_region ?_
    refine al_q (q_move rfl) rfl rfl rfl ?_
    refine al_call Tryz.call34 (.cons rfl (.cons rfl (.cons rfl .nil))) rfl rfl (fun w2 hs2 => ?_)
    refine (rwithin7_any total 1 1000000 _).mono ?_
    rintro e u2 ⟨rfl, rfl⟩
    refine ⟨_, rfl, (Below.refl _ _), ?_⟩
    clear hs2
    refine al_q (q_not rfl) rfl rfl rfl ?_
    refine al_end ?_
    refine aq_then ?_
    refine ac_cond rfl (fun h2 => ?_) (fun h2 => ?_)
    · have hwm : wthn total 1 1000000 = false := by simpa using h2
      have hE : whE M total = 7 := by unfold whE; rw [if_pos hck, if_neg (by rw [hwm]; decide)]
      refine ac_seq ?_
      refine ac_region ?_
      refine al_q (q_assign rfl) rfl rfl rfl ?_
      refine al_q (q_assign rfl) rfl rfl rfl ?_
      refine al_end ?_
      refine aq_then ?_
      refine ac_ret ?_
      refine aq_thenR ?_
      refine ret2 Tryz.results22 rfl rfl (fun w9 hs => ?_)
      rw [hE]; exact OutSp.bad (by decide) hs.below
    · have hwm : wthn total 1 1000000 = true := by simpa using h2
      have hE : whE M total = 0 := by unfold whE; rw [if_pos hck, if_pos hwm]
      refine ac_skip ?_
      refine aq_then ?_
      refine ac_seq ?_
      refine ac_region ?_
      refine al_q (q_assign rfl) rfl rfl rfl ?_
      refine al_end ?_
      refine aq_then ?_
      refine ac_seq ?_
      refine ac_seq ?_
      refine ac_region ?_
      refine al_q (q_assign rfl) rfl rfl rfl ?_
      refine al_end ?_
      refine aq_then ?_
      refine ac_block ?_
      refine ac_loop (β := Nat × Gr × List Value) (fun k => k.1 ≤ cellN M ∧ gok k.2.1 k.1 2 k.2.2 ∧ k.2.2 = (lst k.1 ((fun _ => (⟨0, total⟩ : SpanD)))).flatMap SpanD.cells) (fun k => [(1, (.int .i64 total)), (2, (.pointer (some ⟨b1, 0, none⟩))), (4, (.slice none 0 0)), (5, (.int .i64 0)), (6, (.slice (gA k.2.1) k.1 (gC k.2.1))), (7, (.int .i64 (k.1 : Int)))]) (fun _ => _) (fun k => (b1, _) :: (gt k.2.1 k.2.2 ++ ([]))) (fun k => cellN M - k.1) (0, none, []) ⟨by simp, gok.none 2, rfl⟩ ⟨rfl, rfl, rfl, rfl, rfl, rfl, trivial⟩ (fun w9 hs => (by rw [show gt none [] = [] from rfl, List.nil_append]; exact hs)) (fun k hF1 => ?_)
      obtain ⟨hla, hgk, hcs⟩ := hF1
      refine ac_seq ?_
      refine ac_seq ?_
      refine ac_region ?_
      refine al_q (q_move rfl) rfl rfl rfl ?_
      refine al_q (q_loadAll (i := 0) rfl rfl Tryz.isAgg29 Tryz.sizeOf29 rfl) rfl rfl rfl ?_
      refine al_call Tryz.call26 (.cons rfl .nil) rfl rfl (fun w3 hs3 => ?_)
      refine (rcells2_any R M _ (hM.below hs3.below)).mono ?_
      rintro e u3 ⟨rfl, hb_3⟩
      refine ⟨_, rfl, hb_3, ?_⟩
      clear hs3
      refine al_q (q_lss rfl rfl) rfl rfl rfl ?_
      refine al_end ?_
      refine aq_then ?_
      refine ac_cond rfl (fun h3 => ?_) (fun h3 => ?_)
      · have hkl : k.1 < cellN M := by have := of_decide_eq_true h3; omega
        refine ac_skip ?_
        refine aq_then ?_
        refine ac_seq ?_
        refine ac_block ?_
        refine ac_region ?_
        refine al_q (q_move rfl) rfl rfl rfl ?_
        refine al_q (q_move rfl) rfl rfl rfl ?_
        refine al_q (q_build (.cons rfl .nil) (csf_bl_apiSpan_1_ _ rfl)) rfl rfl rfl ?_
        refine al_new (fun b => .slice (some ⟨b, 0, none⟩) 1 1) (r_buildSlice (.cons rfl .nil) (csf_bs_apiSpan_1_0_ _ _)) rfl rfl rfl ?_
        intro b2
        refine al_grow (z := 2) (bytes := 16) (zv := (.agg #[.int .i64 0, .int .i64 0])) (o := k.2.1) (cs := k.2.2) (vs := [.int .i64 0, .int .i64 total]) rfl rfl (.s (.s (.z))) hgk (Sor.box (j := 0) rfl rfl rfl) Tryz.underlying39 (by kernel_rfl) rfl (by omega) (by decide) rfl rfl (fun o_1 g_1 => ?_)
        refine ⟨_, (.s (.s (.z))), ?_⟩
        refine al_q (q_assign rfl) rfl rfl rfl ?_
        refine al_end ?_
        refine aq_inN ?_
        refine aq_then ?_
        refine ac_region ?_
        refine al_q (q_move rfl) rfl rfl rfl ?_
        refine al_q (q_add rfl rfl (by omega)) rfl rfl rfl ?_
        refine al_q (q_assign rfl) rfl rfl rfl ?_
        refine al_end ?_
        refine aq_then ?_
        skip
        refine aq_round ((k.1 + 1, o_1, (k.2.2 ++ [.int .i64 0, .int .i64 total]))) (by simp only; omega) ⟨by simp only; omega, g_1, by simp only; rw [hcs, lst_snoc, List.flatMap_append]; rfl⟩ ⟨rfl, rfl, rfl, rfl, rfl, rfl, trivial⟩ (fun w9 hs => ((hs.fewer 1 rfl).tail 1 rfl))
      · have hke : k.1 = cellN M := by have := of_decide_eq_false h3; omega
        refine ac_exit ?_
        refine aq_thenE ?_
        refine aq_thenE ?_
        refine aq_hit ?_
        refine aq_then ?_
        refine ac_seq ?_
        refine ac_region ?_
        refine al_q (q_move rfl) rfl rfl rfl ?_
        refine al_q (q_assign rfl) rfl rfl rfl ?_
        refine al_q (q_assign rfl) rfl rfl rfl ?_
        refine al_end ?_
        refine aq_then ?_
        refine ac_ret ?_
        refine ret2 Tryz.results22 rfl rfl (fun w9 hs => ?_)
        rw [hE]; exact OutSp.ok (hs.grown (enc := SpanD.cells) (o := k.2.1) (cs := k.2.2) (zs := whL M total) (fun _ => rfl) (fun y hy => by simp [hy]) hgk (by rw [hcs, hke]; rfl) (by rw [show whL M total = lst (cellN M) _ from rfl, lst_length, hke])) (by omega) hs.below

theorem csf_bl_apiSpan_0_1 (a0 a1 : Value) (ha0 : a0.oneCell' = true) (ha1 : a1.oneCell' = true) : ∀ w, (Instr.build 44 #[(0, a0), (1, a1)]).run Tryz.prog w = .ok (.agg #[a0, a1]) w := by
  have ea0 : a0.cells = #[a0] := cells_one ha0
  have ea1 : a1.cells = #[a1] := cells_one ha1
  intro w; simp [Instr.build, Instr.fill, cells_agg, Tryz.runUnderlying44, Tryz.zeroValue44, Tryz.sizeOf3, ea0, ea1]

set_option maxRecDepth 100000 in
theorem cfixed_any (R : MachR) (M : MachD) (Q : CurR) (C : CurD) (w : World) (hM : IsM w R M) (hC : IsC w Q C) : Calls Tryz.prog 23 #[(.agg (machCells R M)), Q.v] w (OutSp w (fxE M C) (fxL C)) := by
  refine calls_ax (vs := [(.agg (machCells R M)), Q.v]) Tryz.func23 rfl rfl ?_
  refine ac_seq ?_
  refine ac_region ?_
  refine al_new (fun b => .pointer (some ⟨b, 0, none⟩)) (r_box rfl rfl) rfl rfl rfl ?_
  intro b1
  refine al_new (fun b => .pointer (some ⟨b, 0, none⟩)) (r_box rfl rfl) rfl rfl rfl ?_
  intro b2
  refine al_q (q_assign rfl) rfl rfl rfl ?_
  refine al_q (q_assign rfl) rfl rfl rfl ?_
  refine al_end ?_
  refine aq_then ?_
  refine ac_seq ?_
  refine ac_seq ?_
  refine ac_region ?_
  refine al_q (q_loadAll (i := 1) rfl rfl Tryz.isAgg29 Tryz.sizeOf29 rfl) rfl rfl rfl ?_
  refine al_q (q_loadAll (i := 0) rfl rfl Tryz.isAgg32 Tryz.sizeOf32 rfl) rfl rfl rfl ?_
  refine al_call Tryz.call46 (.cons rfl (.cons rfl .nil)) rfl rfl (fun w1 hs1 => ?_)
  refine (validCurrents_any R M Q C _ (hM.below hs1.below) (hC.below hs1.below)).mono ?_
  rintro e u1 ⟨rfl, hb_1⟩
  refine ⟨_, rfl, hb_1, ?_⟩
  clear hs1
  refine al_q (q_not rfl) rfl rfl rfl ?_
  refine al_end ?_
  refine aq_then ?_
  refine ac_cond rfl (fun h1 => ?_) (fun h1 => ?_)
  · have hvb : validC M C = false := by simpa using h1
    have hE : fxE M C = 1 := if_neg (by rw [hvb]; decide)
    refine ac_seq ?_
    refine ac_region ?_
    refine al_q (q_assign rfl) rfl rfl rfl ?_
    refine al_q (q_assign rfl) rfl rfl rfl ?_
    refine al_end ?_
    refine aq_then ?_
    refine ac_ret ?_
    refine aq_thenR ?_
    refine ret2 Tryz.results23 rfl rfl (fun w9 hs => ?_)
    rw [hE]; exact OutSp.bad (by decide) hs.below
  · have hvc : validC M C = true := by simpa using h1
    have hf := fit2_iff.1 hvc
    have hE : fxE M C = 0 := if_pos hvc
    have hcb := cellN_bd hf.check
    have hpl := hf.plasma.1
    have hpq := hC.plasma.1
    have hcs8 : (cellN M : Int) = M.grid.nr * M.grid.nz := by unfold cellN at hcb ⊢; omega
    refine ac_skip ?_
    refine aq_then ?_
    refine ac_seq ?_
    refine ac_region ?_
    refine al_q (q_fieldAddr 2 rfl Tryz.runUnderlying32 rfl Tryz.sizeOf30 (by decide) rfl) rfl rfl rfl ?_
    refine al_q (q_load (i := 0) rfl rfl rfl Tryz.isAgg30) rfl rfl rfl ?_
    refine al_q (q_lenS rfl Tryz.runUnderlying30) rfl rfl rfl ?_
    refine al_makeAgg (n := Q.lc) (bytes := 16) (zv := (.agg #[.int .i64 0, .int .i64 0])) [(.int .i64 0), (.int .i64 0)] rfl rfl rfl Tryz.underlying39 (by kernel_rfl) rfl rfl rfl (by omega) (by decide) rfl rfl ?_
    intro b3
    refine al_q (q_assign rfl) rfl rfl rfl ?_
    refine al_end ?_
    refine aq_then ?_
    refine ac_seq ?_
    refine ac_seq ?_
    refine ac_region ?_
    refine al_q (q_fieldAddr 2 rfl Tryz.runUnderlying32 rfl Tryz.sizeOf30 (by decide) rfl) rfl rfl rfl ?_
    refine al_q (q_load (i := 1) rfl rfl rfl Tryz.isAgg30) rfl rfl rfl ?_
    refine al_q (q_lenS rfl Tryz.runUnderlying30) rfl rfl rfl ?_
    refine al_q (q_move rfl) rfl rfl rfl ?_
    refine al_end ?_
    refine aq_then ?_
    refine ac_block ?_
    refine ac_loop (β := Nat) (fun k => k ≤ Q.lc) (fun k => [(4, (.slice none 0 0)), (5, (.int .i64 0)), (6, (.slice (some ⟨b3, 0, none⟩) (Q.lc) (Q.lc))), (18, (.slice Q.C Q.lc Q.cc)), (19, (.int .i64 (Q.lc : Int))), (20, (.int .i64 (k : Int)))]) (fun _ => _) (fun k => [(b3, .cells (fmix Q.lc k C)), (b2, _), (b1, _)]) (fun k => Q.lc - k) 0 (by omega) ⟨rfl, rfl, rfl, rfl, rfl, rfl, trivial⟩ (fun w9 hs => (by rw [show fmix Q.lc 0 C = (List.range Q.lc).flatMap (fun _ => zS2) from mixF_zero _ _ _]; exact hs)) (fun k hF1 => ?_)
    refine ac_seq ?_
    refine ac_region ?_
    refine al_q (q_lss rfl rfl) rfl rfl rfl ?_
    refine al_end ?_
    refine aq_then ?_
    refine ac_seq ?_
    refine ac_cond rfl (fun h2 => ?_) (fun h2 => ?_)
    · have hkl : k < Q.lc := by have := of_decide_eq_true h2; omega
      obtain ⟨b11, o11, hA1, hlt1, hget1⟩ := hC.plasma.2 (by omega)
      have hx1 := iA_get (l := C.plasma) (k := k) (by omega)
      refine ac_skip ?_
      refine aq_then ?_
      refine ac_seq ?_
      refine ac_block ?_
      refine ac_seq ?_
      refine ac_region ?_
      refine al_q (q_move rfl) rfl rfl rfl ?_
      refine al_q (q_indexAddrA (i := k) (o11 + k * 1 + 0) hA1 rfl rfl rfl (by omega) Tryz.runUnderlying30 Tryz.sizeOf3 rfl) rfl rfl rfl ?_
      refine al_q (q_loadX rfl Tryz.isAgg3 (fun w9 hs => (hs.below.cell (p := ⟨_, _, none⟩) hlt1).trans ((hget1 k _ hx1) 0 _ rfl))) rfl rfl rfl ?_
      refine al_q (q_assign rfl) rfl rfl rfl ?_
      refine al_q (q_assign rfl) rfl rfl rfl ?_
      refine al_end ?_
      refine aq_then ?_
      refine ac_region ?_
      refine al_q (q_move rfl) rfl rfl rfl ?_
      refine al_q (q_move rfl) rfl rfl rfl ?_
      refine al_q (q_move rfl) rfl rfl rfl ?_
      refine al_q (q_move rfl) rfl rfl rfl ?_
      refine al_q (q_build (.cons rfl (.cons rfl .nil)) (csf_bl_apiSpan_0_1 _ _ rfl rfl)) rfl rfl rfl ?_
      refine al_q (q_indexAddr (i := k) (0 + k * 2) rfl rfl rfl (by omega) Tryz.runUnderlying39 Tryz.sizeOf44 rfl) rfl rfl rfl ?_
      refine al_storeV (i := 0) (cs' := (fmix Q.lc (k + 1) C)) (vs := [.int .i64 (iA C.plasma k), .int .i64 (iA C.plasma k)]) rfl rfl rfl Tryz.sizeOf44 rfl (by rw [mixF_len (z := 2) (fun _ => rfl) (fun _ => rfl)]; omega) rfl (by have h := mixF_store (n := Q.lc) (k := k) (z := 2) (F := fun j => [.int .i64 (iA C.plasma j), .int .i64 (iA C.plasma j)]) (G := fun _ => zS2) (fun _ => rfl) (fun _ => rfl) hkl; rw [Nat.zero_add]; exact h) .k0 rfl ?_
      refine al_end ?_
      refine aq_inN ?_
      refine aq_then ?_
      refine ac_region ?_
      refine al_q (q_add rfl rfl (by omega)) rfl rfl rfl ?_
      refine al_q (q_move rfl) rfl rfl rfl ?_
      refine al_end ?_
      refine aq_then ?_
      skip
      refine aq_round (k + 1) (by omega) (by omega) ⟨rfl, rfl, rfl, rfl, rfl, rfl, trivial⟩ (fun w9 hs => hs)
    · have hke : k = Q.lc := by have := of_decide_eq_false h2; omega
      refine ac_exit ?_
      refine aq_thenE ?_
      refine aq_thenE ?_
      refine aq_hit ?_
      refine aq_then ?_
      refine ac_seq ?_
      refine ac_region ?_
      refine al_q (q_move rfl) rfl rfl rfl ?_
      refine al_q (q_assign rfl) rfl rfl rfl ?_
      refine al_q (q_assign rfl) rfl rfl rfl ?_
      refine al_end ?_
      refine aq_then ?_
      refine ac_ret ?_
      refine ret2 Tryz.results23 rfl rfl (fun w9 hs => ?_)
      rw [hE]; exact OutSp.ok (A := some ⟨b3, 0, none⟩) (n := Q.lc) (c := Q.lc) ⟨isT_box0 (n := 2) (enc := SpanD.cells) (fun _ => rfl) (hs.at 0 rfl) (by rw [hke, fmix, mixF_all, fxL, flat_span, hpq]; rfl) (by rw [fxL, lst_length, hpq]), hs.new 0 rfl, by omega, by omega⟩ (by omega) hs.below

set_option maxRecDepth 100000 in
theorem rfixed_any (R : MachR) (M : MachD) (Q : CurR) (C : CurD) (w : World) (hM : IsM w R M) (hC : IsC w Q C) : Calls Tryz.prog 24 #[(.agg (machCells R M)), Q.v] w (OutSp w (fxE M C) (fxL C)) := by
  refine calls_ax (vs := [(.agg (machCells R M)), Q.v]) Tryz.func24 rfl rfl ?_
  refine ac_seq ?_
  refine ac_region ?_
  refine al_new (fun b => .pointer (some ⟨b, 0, none⟩)) (r_box rfl rfl) rfl rfl rfl ?_
  intro b1
  refine al_new (fun b => .pointer (some ⟨b, 0, none⟩)) (r_box rfl rfl) rfl rfl rfl ?_
  intro b2
  refine al_q (q_assign rfl) rfl rfl rfl ?_
  refine al_q (q_assign rfl) rfl rfl rfl ?_
  refine al_end ?_
  refine aq_then ?_
  refine ac_seq ?_
  refine ac_seq ?_
  refine ac_region ?_
  refine al_q (q_loadAll (i := 1) rfl rfl Tryz.isAgg29 Tryz.sizeOf29 rfl) rfl rfl rfl ?_
  refine al_call Tryz.call52 (.cons rfl .nil) rfl rfl (fun w1 hs1 => ?_)
  refine (rcheck_any R M _ (hM.below hs1.below)).mono ?_
  rintro e u1 ⟨rfl, hb_1⟩
  refine ⟨_, rfl, hb_1, ?_⟩
  clear hs1
  refine al_q (q_neq rfl rfl) rfl rfl rfl ?_
  refine al_q (q_move rfl) rfl rfl rfl ?_
  refine aq_split 11 rfl (fun hb1 => ?_) (fun hb1 => ?_)
  · have hck : ¬ checkC M = 0 := by simpa using hb1
    have hE : fxE M C = 1 := if_neg (fun h => hck (fit2_iff.1 h).check)
    refine al_skip rfl rfl rfl ?_
    refine al_skip rfl rfl rfl ?_
    refine al_skip rfl rfl rfl ?_
    refine al_skip rfl rfl rfl ?_
    refine al_q (q_pickT rfl rfl) rfl rfl rfl ?_
    refine al_end ?_
    refine aq_then ?_
    refine ac_condT rfl ?_
    refine ac_seq ?_
    refine ac_region ?_
    refine al_q (q_assign rfl) rfl rfl rfl ?_
    refine al_q (q_assign rfl) rfl rfl rfl ?_
    refine al_end ?_
    refine aq_then ?_
    refine ac_ret ?_
    refine aq_thenR ?_
    refine ret2 Tryz.results24 rfl rfl (fun w9 hs => ?_)
    rw [hE]; exact OutSp.bad (by decide) hs.below
  · skip
    refine al_q (q_loadAll (i := 1) rfl rfl Tryz.isAgg29 Tryz.sizeOf29 rfl) rfl rfl rfl ?_
    refine al_q (q_loadAll (i := 0) rfl rfl Tryz.isAgg32 Tryz.sizeOf32 rfl) rfl rfl rfl ?_
    refine al_call Tryz.call53 (.cons rfl (.cons rfl .nil)) rfl rfl (fun w2 hs2 => ?_)
    refine (rvalid2_any R M Q C _ (hM.below hs2.below) (hC.below hs2.below)).mono ?_
    rintro e u2 ⟨rfl, hb_2⟩
    refine ⟨_, rfl, hb_2, ?_⟩
    clear hs2
    refine al_q (q_not rfl) rfl rfl rfl ?_
    refine al_q (q_pickF rfl rfl) rfl rfl rfl ?_
    refine al_end ?_
    refine aq_then ?_
    refine ac_cond rfl (fun h1 => ?_) (fun h1 => ?_)
    · have hvb : validC M C = false := by simpa using h1
      have hE : fxE M C = 1 := if_neg (by rw [hvb]; decide)
      refine ac_seq ?_
      refine ac_region ?_
      refine al_q (q_assign rfl) rfl rfl rfl ?_
      refine al_q (q_assign rfl) rfl rfl rfl ?_
      refine al_end ?_
      refine aq_then ?_
      refine ac_ret ?_
      refine aq_thenR ?_
      refine ret2 Tryz.results24 rfl rfl (fun w9 hs => ?_)
      rw [hE]; exact OutSp.bad (by decide) hs.below
    · have hvc : validC M C = true := by simpa using h1
      have hf := fit2_iff.1 hvc
      have hE : fxE M C = 0 := if_pos hvc
      have hcb := cellN_bd hf.check
      have hpl := hf.plasma.1
      have hpq := hC.plasma.1
      have hcs8 : (cellN M : Int) = M.grid.nr * M.grid.nz := by unfold cellN at hcb ⊢; omega
      refine ac_skip ?_
      refine aq_then ?_
      refine ac_seq ?_
      refine ac_region ?_
      refine al_q (q_assign rfl) rfl rfl rfl ?_
      refine al_end ?_
      refine aq_then ?_
      refine ac_seq ?_
      refine ac_seq ?_
      refine ac_region ?_
      refine al_q (q_assign rfl) rfl rfl rfl ?_
      refine al_end ?_
      refine aq_then ?_
      refine ac_block ?_
      refine ac_loop (β := Nat × Gr × List Value) (fun k => k.1 ≤ C.plasma.length ∧ gok k.2.1 k.1 2 k.2.2 ∧ k.2.2 = (lst k.1 ((fun k => (⟨iA C.plasma k, iA C.plasma k⟩ : SpanD)))).flatMap SpanD.cells) (fun k => [(3, (.pointer (some ⟨b2, 0, none⟩))), (4, (.slice none 0 0)), (5, (.int .i64 0)), (6, (.slice (gA k.2.1) k.1 (gC k.2.1))), (7, (.int .i64 (k.1 : Int)))]) (fun _ => _) (fun k => (b2, _) :: (b1, _) :: (gt k.2.1 k.2.2 ++ ([]))) (fun k => C.plasma.length - k.1) (0, none, []) ⟨by simp, gok.none 2, rfl⟩ ⟨rfl, rfl, rfl, rfl, rfl, trivial⟩ (fun w9 hs => (by rw [show gt none [] = [] from rfl, List.nil_append]; exact hs)) (fun k hF1 => ?_)
      obtain ⟨hla, hgk, hcs⟩ := hF1
      refine ac_seq ?_
      refine ac_seq ?_
      refine ac_region ?_
      refine al_q (q_move rfl) rfl rfl rfl ?_
      refine al_q (q_fieldAddr 2 rfl Tryz.runUnderlying32 rfl Tryz.sizeOf30 (by decide) rfl) rfl rfl rfl ?_
      refine al_q (q_load (i := 0) rfl rfl rfl Tryz.isAgg30) rfl rfl rfl ?_
      refine al_q (q_lenS rfl Tryz.runUnderlying30) rfl rfl rfl ?_
      refine al_q (q_lss rfl rfl) rfl rfl rfl ?_
      refine al_end ?_
      refine aq_then ?_
      refine ac_cond rfl (fun h2 => ?_) (fun h2 => ?_)
      · have hkl : k.1 < Q.lc := by have := of_decide_eq_true h2; omega
        obtain ⟨b11, o11, hA1, hlt1, hget1⟩ := hC.plasma.2 (by omega)
        have hx1 := iA_get (l := C.plasma) (k := k.1) (by omega)
        refine ac_skip ?_
        refine aq_then ?_
        refine ac_seq ?_
        refine ac_block ?_
        refine ac_drawF 14 (.s (.s .z)) (by kernel_rfl) (by kernel_rfl) ?_
        refine ah_take 0 (fun w9 hs => (hs.front (.s (.s (.z))))) rfl rfl rfl (by kernel_rfl) (by kernel_rfl) (by kernel_rfl) (fun _ _ _ h => h) rfl (q_move rfl) ?_
        refine ah_take 1 (fun w9 hs => (hs.front (.s (.s (.z))))) rfl rfl rfl (by kernel_rfl) (by kernel_rfl) (by kernel_rfl) (fun _ _ _ h => h) rfl (q_fieldAddr 2 rfl Tryz.runUnderlying32 rfl Tryz.sizeOf30 (by decide) rfl) ?_
        refine ah_take 2 (fun w9 hs => (hs.front (.s (.s (.z))))) rfl rfl rfl (by kernel_rfl) (by kernel_rfl) (by kernel_rfl) (fun _ _ _ h => h) rfl (q_load (i := 0) rfl rfl rfl Tryz.isAgg30) ?_
        refine ah_take 3 (fun w9 hs => (hs.front (.s (.s (.z))))) rfl rfl rfl (by kernel_rfl) (by kernel_rfl) (by kernel_rfl) (fun _ _ _ h => h) rfl (q_move rfl) ?_
        refine ah_take 4 (fun w9 hs => (hs.front (.s (.s (.z))))) rfl rfl rfl (by kernel_rfl) (by kernel_rfl) (by kernel_rfl) (fun _ _ _ h => h) rfl (q_indexAddrA (i := k.1) (o11 + k.1 * 1 + 0) hA1 rfl rfl rfl (by omega) Tryz.runUnderlying30 Tryz.sizeOf3 rfl) ?_
        refine ah_take 5 (fun w9 hs => (hs.front (.s (.s (.z))))) rfl rfl rfl (by kernel_rfl) (by kernel_rfl) (by kernel_rfl) (fun _ _ _ h => h) rfl (q_loadX rfl Tryz.isAgg3 (fun w9 hs => (hs.below.cell (p := ⟨_, _, none⟩) hlt1).trans ((hget1 k.1 _ hx1) 0 _ rfl))) ?_
        refine ah_take 6 (fun w9 hs => (hs.front (.s (.s (.z))))) rfl rfl rfl (by kernel_rfl) (by kernel_rfl) (by kernel_rfl) (fun _ _ _ h => h) rfl (q_fieldAddr 2 rfl Tryz.runUnderlying32 rfl Tryz.sizeOf30 (by decide) rfl) ?_
        refine ah_take 7 (fun w9 hs => (hs.front (.s (.s (.z))))) rfl rfl rfl (by kernel_rfl) (by kernel_rfl) (by kernel_rfl) (fun _ _ _ h => h) rfl (q_load (i := 0) rfl rfl rfl Tryz.isAgg30) ?_
        refine ah_take 8 (fun w9 hs => (hs.front (.s (.s (.z))))) rfl rfl rfl (by kernel_rfl) (by kernel_rfl) (by kernel_rfl) (fun _ _ _ h => h) rfl (q_move rfl) ?_
        refine ah_take 9 (fun w9 hs => (hs.front (.s (.s (.z))))) rfl rfl rfl (by kernel_rfl) (by kernel_rfl) (by kernel_rfl) (fun _ _ _ h => h) rfl (q_indexAddrA (i := k.1) (o11 + k.1 * 1 + 0) hA1 rfl rfl rfl (by omega) Tryz.runUnderlying30 Tryz.sizeOf3 rfl) ?_
        refine ah_take 10 (fun w9 hs => (hs.front (.s (.s (.z))))) rfl rfl rfl (by kernel_rfl) (by kernel_rfl) (by kernel_rfl) (fun _ _ _ h => h) rfl (q_loadX rfl Tryz.isAgg3 (fun w9 hs => (hs.below.cell (p := ⟨_, _, none⟩) hlt1).trans ((hget1 k.1 _ hx1) 0 _ rfl))) ?_
        refine ah_take 11 (fun w9 hs => (hs.front (.s (.s (.z))))) rfl rfl rfl (by kernel_rfl) (by kernel_rfl) (by kernel_rfl) (fun _ _ _ h => h) rfl (q_build (.cons rfl (.cons rfl .nil)) (csf_bl_apiSpan_0_1 _ _ rfl rfl)) ?_
        refine ah_one 12 rfl (by kernel_rfl) (fun hok1 hcl1 => ?_)
        refine al_new (fun b => .slice (some ⟨b, 0, none⟩) 1 1) (r_buildSlice (.cons rfl .nil) (csf_bs_apiSpan_1_0_ _ _)) rfl rfl rfl ?_
        intro b3
        refine al_end (ah_back hok1 hcl1 (fun w9 hs => ((hs.tail 1 rfl).front (.s (.s (.z))))) ?_)
        refine ah_one 13 rfl (by kernel_rfl) (fun hok2 hcl2 => ?_)
        refine al_grow (z := 2) (bytes := 16) (zv := (.agg #[.int .i64 0, .int .i64 0])) (o := k.2.1) (cs := k.2.2) (vs := [.int .i64 (iA C.plasma k.1), .int .i64 (iA C.plasma k.1)]) rfl rfl (.s (.s (.s (.z)))) hgk (Sor.box (j := 0) rfl rfl rfl) Tryz.underlying39 (by kernel_rfl) rfl (by omega) (by decide) rfl rfl (fun o_1 g_1 => ?_)
        refine ⟨_, (.s (.s (.s (.z)))), ?_⟩
        refine al_end (ah_back hok2 hcl2 (fun w9 hs => ((hs.tail 1 rfl).front (.s (.s (.z))))) ?_)
        refine ah_one 14 rfl (by kernel_rfl) (fun hok3 hcl3 => ?_)
        refine al_q (q_assign rfl) rfl rfl rfl ?_
        refine al_end (ah_last (by kernel_rfl) ?_)
        refine aq_inN ?_
        refine aq_then ?_
        refine ac_region ?_
        refine al_q (q_move rfl) rfl rfl rfl ?_
        refine al_q (q_add rfl rfl (by omega)) rfl rfl rfl ?_
        refine al_q (q_assign rfl) rfl rfl rfl ?_
        refine al_end ?_
        refine aq_then ?_
        skip
        refine aq_round ((k.1 + 1, o_1, (k.2.2 ++ [.int .i64 (iA C.plasma k.1), .int .i64 (iA C.plasma k.1)]))) (by simp only; omega) ⟨by simp only; omega, g_1, by simp only; rw [hcs, lst_snoc, List.flatMap_append]; rfl⟩ ⟨rfl, rfl, rfl, rfl, rfl, trivial⟩ (fun w9 hs => (hs.tail 1 rfl))
      · have hke : k.1 = C.plasma.length := by have := of_decide_eq_false h2; omega
        refine ac_exit ?_
        refine aq_thenE ?_
        refine aq_thenE ?_
        refine aq_hit ?_
        refine aq_then ?_
        refine ac_seq ?_
        refine ac_region ?_
        refine al_q (q_move rfl) rfl rfl rfl ?_
        refine al_q (q_assign rfl) rfl rfl rfl ?_
        refine al_q (q_assign rfl) rfl rfl rfl ?_
        refine al_end ?_
        refine aq_then ?_
        refine ac_ret ?_
        refine ret2 Tryz.results24 rfl rfl (fun w9 hs => ?_)
        rw [hE]; exact OutSp.ok (hs.grown (enc := SpanD.cells) (o := k.2.1) (cs := k.2.2) (zs := fxL C) (fun _ => rfl) (fun y hy => by simp [hy]) hgk (by rw [hcs, hke]; rfl) (by rw [show fxL C = lst C.plasma.length _ from rfl, lst_length, hke])) (by omega) hs.below

set_option maxRecDepth 100000 in
theorem holds5_any (A : Option Addr) (n c : Nat) (Q : CurR) (C : CurD) (w : World) (hI : IsT 2 SpanD.cells w A n (fxL C)) (hC : IsC w Q C) : Calls Tryz.prog 25 #[(.slice A n c), (.slice Q.C Q.lc Q.cc)] w (Ret (.bool true) w) := by
  have n1 := hI.1
  have n2 : (fxL C).length = C.plasma.length := lst_length _ _
  have n3 := hC.plasma.1
  have hnn : n = Q.lc := by omega
  have n4 := hC.kc
  refine calls_ax (vs := [(.slice A n c), (.slice Q.C Q.lc Q.cc)]) Tryz.func25 rfl rfl ?_
  refine ac_seq ?_
  refine ac_region ?_
  refine al_q (q_assign rfl) rfl rfl rfl ?_
  refine al_end ?_
  refine aq_then ?_
  refine ac_seq ?_
  refine ac_seq ?_
  refine ac_region ?_
  refine al_q (q_move rfl) rfl rfl rfl ?_
  refine al_q (q_lenS rfl Tryz.runUnderlying39) rfl rfl rfl ?_
  refine al_q (q_move rfl) rfl rfl rfl ?_
  refine al_q (q_lenS rfl Tryz.runUnderlying30) rfl rfl rfl ?_
  refine al_q (q_same (v' := .bool false) (q_neq rfl rfl) (by rw [hnn]; simp)) rfl rfl rfl ?_
  refine al_end ?_
  refine aq_then ?_
  refine ac_condF rfl ?_
  refine ac_skip ?_
  refine aq_then ?_
  refine ac_seq ?_
  refine ac_seq ?_
  refine ac_region ?_
  refine al_q (q_assign rfl) rfl rfl rfl ?_
  refine al_end ?_
  refine aq_then ?_
  refine ac_block ?_
  refine ac_loop (β := Nat) (fun k => True) (fun k => [(0, (.slice A n c)), (1, (.slice Q.C Q.lc Q.cc)), (4, (.bool false)), (5, (.int .i64 (k : Int)))]) (fun _ => _) (fun k => []) (fun k => n - k) 0 trivial ⟨rfl, rfl, rfl, rfl, trivial⟩ (fun w9 hs => hs) (fun k hF1 => ?_)
  refine ac_seq ?_
  refine ac_seq ?_
  refine ac_region ?_
  refine al_q (q_move rfl) rfl rfl rfl ?_
  refine al_q (q_move rfl) rfl rfl rfl ?_
  refine al_q (q_lenS rfl Tryz.runUnderlying39) rfl rfl rfl ?_
  refine al_q (q_lss rfl rfl) rfl rfl rfl ?_
  refine al_end ?_
  refine aq_then ?_
  refine ac_cond rfl (fun h1 => ?_) (fun h1 => ?_)
  · have hkl : k < n := by have := of_decide_eq_true h1; omega
    obtain ⟨b11, o11, hA1, hlt1, hget1⟩ := hC.plasma.2 (by omega)
    have hx1 := iA_get (l := C.plasma) (k := k) (by omega)
    obtain ⟨b21, o21, hA2, hlt2, hget2⟩ := hI.2 (by omega)
    have hx2 := (show (fxL C)[k]? = some ⟨iA C.plasma k, iA C.plasma k⟩ from lst_get _ (by omega))
    refine ac_skip ?_
    refine aq_then ?_
    refine ac_seq ?_
    refine ac_block ?_
    refine ac_seq ?_
    refine ac_draw 21 (by kernel_rfl) (by kernel_rfl) ?_
    refine ah_take 0 (fun w9 hs => hs) rfl rfl rfl (by kernel_rfl) (by kernel_rfl) (by kernel_rfl) (fun _ _ _ h => h) rfl (q_move rfl) ?_
    refine ah_take 1 (fun w9 hs => hs) rfl rfl rfl (by kernel_rfl) (by kernel_rfl) (by kernel_rfl) (fun _ _ _ h => h) rfl (q_move rfl) ?_
    refine ah_take 2 (fun w9 hs => hs) rfl rfl rfl (by kernel_rfl) (by kernel_rfl) (by kernel_rfl) (fun _ _ _ h => h) rfl (q_indexAddrA (i := k) (o11 + k * 1 + 0) hA1 rfl rfl rfl (by omega) Tryz.runUnderlying30 Tryz.sizeOf3 rfl) ?_
    refine ah_take 3 (fun w9 hs => hs) rfl rfl rfl (by kernel_rfl) (by kernel_rfl) (by kernel_rfl) (fun _ _ _ h => h) rfl (q_loadX rfl Tryz.isAgg3 (fun w9 hs => (hs.below.cell (p := ⟨_, _, none⟩) hlt1).trans ((hget1 k _ hx1) 0 _ rfl))) ?_
    refine ah_take 4 (fun w9 hs => hs) rfl rfl rfl (by kernel_rfl) (by kernel_rfl) (by kernel_rfl) (fun _ _ _ h => h) rfl (q_move rfl) ?_
    refine ah_take 5 (fun w9 hs => hs) rfl rfl rfl (by kernel_rfl) (by kernel_rfl) (by kernel_rfl) (fun _ _ _ h => h) rfl (q_move rfl) ?_
    refine ah_take 6 (fun w9 hs => hs) rfl rfl rfl (by kernel_rfl) (by kernel_rfl) (by kernel_rfl) (fun _ _ _ h => h) rfl (q_indexAddrA (i := k) (o21 + k * 2 + 0) hA2 rfl rfl rfl (by omega) Tryz.runUnderlying39 Tryz.sizeOf44 rfl) ?_
    refine ah_take 7 (fun w9 hs => hs) rfl rfl rfl (by kernel_rfl) (by kernel_rfl) (by kernel_rfl) (fun _ _ _ h => h) rfl (q_fieldAddr (o21 + k * 2 + 0) rfl Tryz.runUnderlying44 rfl Tryz.sizeOf3 (by decide) rfl) ?_
    refine ah_take 8 (fun w9 hs => hs) rfl rfl rfl (by kernel_rfl) (by kernel_rfl) (by kernel_rfl) (fun _ _ _ h => h) rfl (q_loadX rfl Tryz.isAgg3 (fun w9 hs => (hs.below.cell (p := ⟨_, _, none⟩) hlt2).trans ((hget2 k _ hx2) 0 _ rfl))) ?_
    refine ah_take 9 (fun w9 hs => hs) rfl rfl rfl (by kernel_rfl) (by kernel_rfl) (by kernel_rfl) (fun _ _ _ h => h) rfl (q_same (v' := .bool false) (q_lss rfl rfl) (by simp)) ?_
    refine ah_take 10 (fun w9 hs => hs) rfl rfl rfl (by kernel_rfl) (by kernel_rfl) (by kernel_rfl) (fun _ _ _ h => h) rfl (q_move rfl) ?_
    refine ah_take 11 (fun w9 hs => hs) rfl rfl rfl (by kernel_rfl) (by kernel_rfl) (by kernel_rfl) (fun _ _ _ h => h) rfl (q_move rfl) ?_
    refine ah_take 12 (fun w9 hs => hs) rfl rfl rfl (by kernel_rfl) (by kernel_rfl) (by kernel_rfl) (fun _ _ _ h => h) rfl (q_move rfl) ?_
    refine ah_take 13 (fun w9 hs => hs) rfl rfl rfl (by kernel_rfl) (by kernel_rfl) (by kernel_rfl) (fun _ _ _ h => h) rfl (q_indexAddrA (i := k) (o11 + k * 1 + 0) hA1 rfl rfl rfl (by omega) Tryz.runUnderlying30 Tryz.sizeOf3 rfl) ?_
    refine ah_take 14 (fun w9 hs => hs) rfl rfl rfl (by kernel_rfl) (by kernel_rfl) (by kernel_rfl) (fun _ _ _ h => h) rfl (q_loadX rfl Tryz.isAgg3 (fun w9 hs => (hs.below.cell (p := ⟨_, _, none⟩) hlt1).trans ((hget1 k _ hx1) 0 _ rfl))) ?_
    refine ah_take 15 (fun w9 hs => hs) rfl rfl rfl (by kernel_rfl) (by kernel_rfl) (by kernel_rfl) (fun _ _ _ h => h) rfl (q_move rfl) ?_
    refine ah_take 16 (fun w9 hs => hs) rfl rfl rfl (by kernel_rfl) (by kernel_rfl) (by kernel_rfl) (fun _ _ _ h => h) rfl (q_move rfl) ?_
    refine ah_take 17 (fun w9 hs => hs) rfl rfl rfl (by kernel_rfl) (by kernel_rfl) (by kernel_rfl) (fun _ _ _ h => h) rfl (q_indexAddrA (i := k) (o21 + k * 2 + 0) hA2 rfl rfl rfl (by omega) Tryz.runUnderlying39 Tryz.sizeOf44 rfl) ?_
    refine ah_take 18 (fun w9 hs => hs) rfl rfl rfl (by kernel_rfl) (by kernel_rfl) (by kernel_rfl) (fun _ _ _ h => h) rfl (q_fieldAddr (o21 + k * 2 + 1) rfl Tryz.runUnderlying44 rfl Tryz.sizeOf3 (by decide) rfl) ?_
    refine ah_take 19 (fun w9 hs => hs) rfl rfl rfl (by kernel_rfl) (by kernel_rfl) (by kernel_rfl) (fun _ _ _ h => h) rfl (q_loadX rfl Tryz.isAgg3 (fun w9 hs => (hs.below.cell (p := ⟨_, _, none⟩) hlt2).trans ((hget2 k _ hx2) 1 _ rfl))) ?_
    refine ah_take 20 (fun w9 hs => hs) rfl rfl rfl (by kernel_rfl) (by kernel_rfl) (by kernel_rfl) (fun _ _ _ h => h) rfl (q_same (v' := .bool false) (q_gtr rfl rfl) (by simp)) ?_
    refine ah_take 21 (fun w9 hs => hs) rfl rfl rfl (by kernel_rfl) (by kernel_rfl) (by kernel_rfl) (fun _ _ _ h => h) rfl (q_pickF rfl rfl) ?_
    refine ah_done (by kernel_rfl) ?_
    refine aq_then ?_
    refine ac_condF rfl ?_
    refine ac_skip ?_
    refine aq_inN ?_
    refine aq_then ?_
    refine ac_region ?_
    refine al_q (q_move rfl) rfl rfl rfl ?_
    refine al_q (q_add rfl rfl (by omega)) rfl rfl rfl ?_
    refine al_q (q_assign rfl) rfl rfl rfl ?_
    refine al_end ?_
    refine aq_then ?_
    skip
    refine aq_round (k + 1) (by omega) trivial ⟨rfl, rfl, rfl, rfl, trivial⟩ (fun w9 hs => hs)
  · skip
    refine ac_exit ?_
    refine aq_thenE ?_
    refine aq_thenE ?_
    refine aq_hit ?_
    refine aq_then ?_
    refine ac_seq ?_
    refine ac_region ?_
    refine al_q (q_assign rfl) rfl rfl rfl ?_
    refine al_end ?_
    refine aq_then ?_
    refine ac_ret ?_
    refine ret1 Tryz.results25 rfl (fun w9 hs => ?_)
    exact ⟨rfl, hs.below⟩

end Go.Proofs.YtnikdbglpimadaaGreat
end
section
/- The law ControlBoxes, over this seat's translation (written by ax_cs5.py). -/
namespace Go.Proofs.YtnikdbglpimadaaGreat
set_option linter.unusedVariables false
set_option linter.unusedSimpArgs false
open Go.RowKit

theorem csg_bl_apiState_1_ (c0_0 c0_1 c0_2 : Value) : ∀ w, (Instr.build 35 #[(1, .agg #[c0_0, c0_1, c0_2])]).run Tryz.prog w = .ok (.agg #[(.int .i64 0), c0_0, c0_1, c0_2, (.slice none 0 0), (.slice none 0 0)]) w := by
  intro w; simp [Instr.build, Instr.fill, cells_agg, Tryz.runUnderlying35, Tryz.zeroValue35, Tryz.sizeOf3, Tryz.sizeOf30, Tryz.sizeOf32, Tryz.sizeOf33]

set_option maxRecDepth 100000 in
theorem csg_eq_neq_apiSpan (a0 b0 : Int) (a1 b1 : Int) : ∀ w, (binOp .neq 44 (.agg #[.int .i64 a0, .int .i64 a1]) (.agg #[.int .i64 b0, .int .i64 b1])).run Tryz.prog w = .ok (.bool (!decide (a0 = b0 ∧ a1 = b1))) w := by
  intro w
  have e : binOp .neq 44 (.agg #[.int .i64 a0, .int .i64 a1]) (.agg #[.int .i64 b0, .int .i64 b1]) = (do pure (.bool (!(← Op.equal 44 (.agg #[.int .i64 a0, .int .i64 a1]) (.agg #[.int .i64 b0, .int .i64 b1])))) : Sem Value) := rfl
  have h : ∀ w, (Op.equal 44 (.agg #[.int .i64 a0, .int .i64 a1]) (.agg #[.int .i64 b0, .int .i64 b1])).run Tryz.prog w = .ok (decide (a0 = b0 ∧ a1 = b1)) w := by
    intro w
    show (Op.equalIn 10000 44 _ _).run _ w = _
    rw [run_equalIn_struct w 9999 44 _ _ (by kernel_rfl) (by kernel_rfl)]
    simp [Program.fieldsOf, Tryz.underlying44, Op.eqFields, go_sem, Tryz.underlying3, Tryz.isAgg3, Tryz.sizeOf3, str_eq]
    by_cases h0 : a0 = b0 <;> by_cases h1 : a1 = b1 <;> simp [h0, h1]
  rw [e]; simp [h]

set_option maxRecDepth 100000 in
theorem boxes_walk (R : MachR) (M : MachD) (Q : CurR) (C : CurD) (total : Int) (w : World) (hM0 : R.la ≤ 1000000000000000 → R.lb ≤ 1000000000000000 → R.lc ≤ 1000000000000000 → R.ld ≤ 1000000000000000 → IsM w R M) (hC0 : Q.la ≤ 1000000000000000 → Q.lb ≤ 1000000000000000 → Q.lc ≤ 1000000000000000 → IsC w Q C) : Calls Tryz.prog 5 #[(.agg (machCells R M)), Q.v, (.int .i64 total)] w (Ret (.bool true) w) := by
  refine calls_ax (vs := [(.agg (machCells R M)), Q.v, (.int .i64 total)]) Tryz.func5 rfl rfl ?_
  refine ac_seq ?_
  refine ac_region ?_
  refine al_new (fun b => .pointer (some ⟨b, 0, none⟩)) (r_box rfl rfl) rfl rfl rfl ?_
  intro b1
  refine al_new (fun b => .pointer (some ⟨b, 0, none⟩)) (r_box rfl rfl) rfl rfl rfl ?_
  intro b2
  refine al_q (q_assign rfl) rfl rfl rfl ?_
  refine al_end ?_
  refine aq_then ?_
  refine ac_seq ?_
  refine ac_seq ?_
  refine ac_region ?_
  refine al_call Tryz.call6 .nil rfl rfl (fun w1 hs1 => ?_)
  refine (awake7_any _).mono ?_
  rintro e u1 ⟨rfl, hb_1⟩
  refine ⟨_, rfl, hb_1, ?_⟩
  clear hs1
  refine al_q (q_not rfl) rfl rfl rfl ?_
  refine al_end ?_
  refine aq_then ?_
  refine ac_condF rfl ?_
  refine ac_skip ?_
  refine aq_then ?_
  refine ac_seq ?_
  refine ac_seq ?_
  refine ac_region ?_
  refine al_q (q_loadAll (i := 1) rfl rfl Tryz.isAgg29 Tryz.sizeOf29 rfl) rfl rfl rfl ?_
  refine al_call Tryz.call7 (.cons rfl .nil) rfl rfl (fun w2 hs2 => ?_)
  refine (large_any R M _).mono ?_
  rintro e u2 ⟨rfl, hb_2⟩
  refine ⟨_, rfl, hb_2, ?_⟩
  clear hs2
  refine al_q (q_move rfl) rfl rfl rfl ?_
  refine aq_split 21 rfl (fun hb1 => ?_) (fun hb1 => ?_)
  · skip
    refine al_skip rfl rfl rfl ?_
    refine al_skip rfl rfl rfl ?_
    refine al_skip rfl rfl rfl ?_
    refine al_q (q_pickT rfl rfl) rfl rfl rfl ?_
    refine al_end ?_
    refine aq_then ?_
    refine ac_condT rfl ?_
    refine ac_seq ?_
    refine ac_region ?_
    refine al_q (q_assign rfl) rfl rfl rfl ?_
    refine al_end ?_
    refine aq_then ?_
    refine ac_ret ?_
    refine aq_thenR ?_
    refine ret1 Tryz.results5 rfl (fun w9 hs => ?_)
    exact ⟨rfl, hs.below⟩
  · obtain ⟨u1, u2, u3, u4, u5⟩ := largeB_bd (by simpa using hb1)
    refine al_q (q_loadAll (i := 0) rfl rfl Tryz.isAgg32 Tryz.sizeOf32 rfl) rfl rfl rfl ?_
    refine al_q (q_build (.cons rfl .nil) (csg_bl_apiState_1_ _ _ _)) rfl rfl rfl ?_
    refine al_call Tryz.call8 (.cons rfl (.cons rfl (.cons rfl .nil))) rfl rfl (fun w3 hs3 => ?_)
    refine (heavy_any ⟨Q, none, none, 0, 0, 0, 0⟩ ⟨0, C, [], []⟩ none none 0 0 0 0 _).mono ?_
    rintro e u3 ⟨hb7, rfl, hhb, hb_3⟩
    refine ⟨_, rfl, hb_3, ?_⟩
    clear hs3
    refine al_q (q_pickF rfl rfl) rfl rfl rfl ?_
    refine al_end ?_
    refine aq_then ?_
    refine ac_cond rfl (fun h1 => ?_) (fun h1 => ?_)
    · skip
      refine ac_seq ?_
      refine ac_region ?_
      refine al_q (q_assign rfl) rfl rfl rfl ?_
      refine al_end ?_
      refine aq_then ?_
      refine ac_ret ?_
      refine aq_thenR ?_
      refine ret1 Tryz.results5 rfl (fun w9 hs => ?_)
      exact ⟨rfl, hs.below⟩
    · obtain ⟨⟨v1, v2, v3, v4, v5⟩, v6, v7⟩ := hhb (by simpa using h1)
      simp only at v1 v2 v3
      have hM := hM0 (by omega) (by omega) (by omega) (by omega)
      have hC := hC0 (by omega) (by omega) (by omega)
      refine ac_skip ?_
      refine aq_then ?_
      refine ac_seq ?_
      refine ac_region ?_
      refine al_q (q_loadAll (i := 1) rfl rfl Tryz.isAgg29 Tryz.sizeOf29 rfl) rfl rfl rfl ?_
      refine al_q (q_move rfl) rfl rfl rfl ?_
      refine al_call Tryz.call21 (.cons rfl (.cons rfl .nil)) rfl rfl (fun w4 hs4 => ?_)
      refine (cwhole_any R M total _ (hM.below hs4.below)).mono ?_
      rintro e u4 ⟨A_a, n_a, c_a, rfl, I_a, F_a, L_a, hb_4⟩
      refine ⟨_, rfl, hb_4, ?_⟩
      clear hs4
      refine al_q (q_move rfl) rfl rfl rfl ?_
      refine al_q (q_extract rfl rfl) rfl rfl rfl ?_
      refine al_q (q_extract rfl rfl) rfl rfl rfl ?_
      refine al_q (q_assign rfl) rfl rfl rfl ?_
      refine al_q (q_assign rfl) rfl rfl rfl ?_
      refine al_end ?_
      refine aq_then ?_
      refine ac_seq ?_
      refine ac_region ?_
      refine al_q (q_loadAll (i := 1) rfl rfl Tryz.isAgg29 Tryz.sizeOf29 rfl) rfl rfl rfl ?_
      refine al_q (q_move rfl) rfl rfl rfl ?_
      refine al_call Tryz.call22 (.cons rfl (.cons rfl .nil)) rfl rfl (fun w5 hs5 => ?_)
      refine (rwhole7_any R M total _ (hM.below hs5.below)).mono ?_
      rintro e u5 ⟨A_b, n_b, c_b, rfl, I_b, F_b, L_b, hb_5⟩
      refine ⟨_, rfl, hb_5, ?_⟩
      clear hs5
      refine al_q (q_move rfl) rfl rfl rfl ?_
      refine al_q (q_extract rfl rfl) rfl rfl rfl ?_
      refine al_q (q_extract rfl rfl) rfl rfl rfl ?_
      refine al_q (q_assign rfl) rfl rfl rfl ?_
      refine al_q (q_assign rfl) rfl rfl rfl ?_
      refine al_end ?_
      refine aq_then ?_
      refine ac_seq ?_
      refine ac_seq ?_
      have hnn : n_a = n_b := by have h1 := I_a.1; have h2 := I_b.1; omega
      refine ac_region ?_
      refine al_q (q_move rfl) rfl rfl rfl ?_
      refine al_q (q_move rfl) rfl rfl rfl ?_
      refine al_q (q_same (v' := .bool false) (q_neq rfl rfl) (by simp)) rfl rfl rfl ?_
      refine al_q (q_move rfl) rfl rfl rfl ?_
      refine al_q (q_move rfl) rfl rfl rfl ?_
      refine al_q (q_lenS rfl Tryz.runUnderlying39) rfl rfl rfl ?_
      refine al_q (q_move rfl) rfl rfl rfl ?_
      refine al_q (q_lenS rfl Tryz.runUnderlying39) rfl rfl rfl ?_
      refine al_q (q_same (v' := .bool false) (q_neq rfl rfl) (by rw [hnn]; simp)) rfl rfl rfl ?_
      refine al_q (q_pickF rfl rfl) rfl rfl rfl ?_
      refine al_end ?_
      refine aq_then ?_
      refine ac_condF rfl ?_
      refine ac_skip ?_
      refine aq_then ?_
      refine ac_seq ?_
      refine ac_seq ?_
      refine ac_region ?_
      refine al_q (q_assign rfl) rfl rfl rfl ?_
      refine al_end ?_
      refine aq_then ?_
      refine ac_block ?_
      refine ac_loop (β := Nat) (fun k => True) (fun k => [(3, (.pointer (some ⟨b1, 0, none⟩))), (4, (.pointer (some ⟨b2, 0, none⟩))), (6, (.bool false)), (7, (.slice A_a n_a c_a)), (9, (.slice A_b n_b c_b)), (11, (.int .i64 (k : Int)))]) (fun _ => _) (fun k => [(b2, _), (b1, _)]) (fun k => n_a - k) 0 trivial ⟨rfl, rfl, rfl, rfl, rfl, rfl, trivial⟩ (fun w9 hs => hs) (fun k hF1 => ?_)
      refine ac_seq ?_
      refine ac_seq ?_
      refine ac_region ?_
      refine al_q (q_move rfl) rfl rfl rfl ?_
      refine al_q (q_move rfl) rfl rfl rfl ?_
      refine al_q (q_lenS rfl Tryz.runUnderlying39) rfl rfl rfl ?_
      refine al_q (q_lss rfl rfl) rfl rfl rfl ?_
      refine al_end ?_
      refine aq_then ?_
      refine ac_cond rfl (fun h2 => ?_) (fun h2 => ?_)
      · have hkn : k < n_a := by have := of_decide_eq_true h2; omega
        have hr0 : whE M total = 0 := Classical.byContradiction fun h => by rw [if_neg h] at I_a; have := I_a.1; simp at this; omega
        rw [if_pos hr0] at I_a I_b
        have t1 : n_a = cellN M := by have := I_a.1; rw [whL, lst_length] at this; omega
        have t2 : n_b = cellN M := by have := I_b.1; rw [whL, lst_length] at this; omega
        obtain ⟨b_a, o_a, hA_a, hlt_a, hget_a⟩ := I_a.2 (by omega)
        have hx_a : (whL M total)[k]? = some (⟨0, total⟩ : SpanD) := lst_get _ (by omega)
        obtain ⟨b_b, o_b, hA_b, hlt_b, hget_b⟩ := I_b.2 (by omega)
        have hx_b : (whL M total)[k]? = some (⟨0, total⟩ : SpanD) := lst_get _ (by omega)
        refine ac_skip ?_
        refine aq_then ?_
        refine ac_seq ?_
        refine ac_block ?_
        refine ac_seq ?_
        refine ac_draw 8 (by kernel_rfl) (by kernel_rfl) ?_
        refine ah_take 0 (fun w9 hs => hs) rfl rfl rfl (by kernel_rfl) (by kernel_rfl) (by kernel_rfl) (fun _ _ _ h => h) rfl (q_move rfl) ?_
        refine ah_take 1 (fun w9 hs => hs) rfl rfl rfl (by kernel_rfl) (by kernel_rfl) (by kernel_rfl) (fun _ _ _ h => h) rfl (q_move rfl) ?_
        refine ah_take 2 (fun w9 hs => hs) rfl rfl rfl (by kernel_rfl) (by kernel_rfl) (by kernel_rfl) (fun _ _ _ h => h) rfl (q_indexAddrA (i := k) (o_a + k * 2 + 0) hA_a rfl rfl rfl (by omega) Tryz.runUnderlying39 Tryz.sizeOf44 rfl) ?_
        refine ah_take 3 (fun w9 hs => hs) rfl rfl rfl (by kernel_rfl) (by kernel_rfl) (by kernel_rfl) (fun _ _ _ h => h) rfl (q_loadXs (SpanD.cells (⟨0, total⟩ : SpanD)) rfl Tryz.isAgg44 Tryz.sizeOf44 (fun w9 hs j9 v9 h9 => by rw [addr_add]; exact (hs.cellOf (.tail _ (.head _)) (F_a _ _ hA_a) hlt_a (hget_a k _ hx_a j9 v9 h9))) rfl) ?_
        refine ah_take 4 (fun w9 hs => hs) rfl rfl rfl (by kernel_rfl) (by kernel_rfl) (by kernel_rfl) (fun _ _ _ h => h) rfl (q_move rfl) ?_
        refine ah_take 5 (fun w9 hs => hs) rfl rfl rfl (by kernel_rfl) (by kernel_rfl) (by kernel_rfl) (fun _ _ _ h => h) rfl (q_move rfl) ?_
        refine ah_take 6 (fun w9 hs => hs) rfl rfl rfl (by kernel_rfl) (by kernel_rfl) (by kernel_rfl) (fun _ _ _ h => h) rfl (q_indexAddrA (i := k) (o_b + k * 2 + 0) hA_b rfl rfl rfl (by omega) Tryz.runUnderlying39 Tryz.sizeOf44 rfl) ?_
        refine ah_take 7 (fun w9 hs => hs) rfl rfl rfl (by kernel_rfl) (by kernel_rfl) (by kernel_rfl) (fun _ _ _ h => h) rfl (q_loadXs (SpanD.cells (⟨0, total⟩ : SpanD)) rfl Tryz.isAgg44 Tryz.sizeOf44 (fun w9 hs j9 v9 h9 => by rw [addr_add]; exact (hs.cellOf (.head _) (F_b _ _ hA_b) hlt_b (hget_b k _ hx_b j9 v9 h9))) rfl) ?_
        refine ah_take 8 (fun w9 hs => hs) rfl rfl rfl (by kernel_rfl) (by kernel_rfl) (by kernel_rfl) (fun _ _ _ h => h) rfl (q_same (v' := .bool false) (q_cmpS rfl rfl (by kernel_rfl) (csg_eq_neq_apiSpan _ _ _ _)) (by simp)) ?_
        refine ah_done (by kernel_rfl) ?_
        refine aq_then ?_
        refine ac_condF rfl ?_
        refine ac_skip ?_
        refine aq_inN ?_
        refine aq_then ?_
        refine ac_region ?_
        refine al_q (q_move rfl) rfl rfl rfl ?_
        refine al_q (q_add rfl rfl (by omega)) rfl rfl rfl ?_
        refine al_q (q_assign rfl) rfl rfl rfl ?_
        refine al_end ?_
        refine aq_then ?_
        skip
        refine aq_round (k + 1) (by omega) trivial ⟨rfl, rfl, rfl, rfl, rfl, rfl, trivial⟩ (fun w9 hs => hs)
      · skip
        refine ac_exit ?_
        refine aq_thenE ?_
        refine aq_thenE ?_
        refine aq_hit ?_
        refine aq_then ?_
        refine ac_seq ?_
        refine ac_region ?_
        refine al_q (q_loadAll (i := 1) rfl rfl Tryz.isAgg29 Tryz.sizeOf29 rfl) rfl rfl rfl ?_
        refine al_q (q_loadAll (i := 0) rfl rfl Tryz.isAgg32 Tryz.sizeOf32 rfl) rfl rfl rfl ?_
        refine al_call Tryz.call23 (.cons rfl (.cons rfl .nil)) rfl rfl (fun w6 hs6 => ?_)
        refine (cfixed_any R M Q C _ (hM.below hs6.below) (hC.below hs6.below)).mono ?_
        rintro e u6 ⟨A_p, n_p, c_p, rfl, I_p, F_p, L_p, hb_6⟩
        refine ⟨_, rfl, hb_6, ?_⟩
        clear hs6
        refine al_q (q_move rfl) rfl rfl rfl ?_
        refine al_q (q_extract rfl rfl) rfl rfl rfl ?_
        refine al_q (q_extract rfl rfl) rfl rfl rfl ?_
        refine al_q (q_assign rfl) rfl rfl rfl ?_
        refine al_q (q_assign rfl) rfl rfl rfl ?_
        refine al_end ?_
        refine aq_then ?_
        refine ac_seq ?_
        refine ac_region ?_
        refine al_q (q_loadAll (i := 1) rfl rfl Tryz.isAgg29 Tryz.sizeOf29 rfl) rfl rfl rfl ?_
        refine al_q (q_loadAll (i := 0) rfl rfl Tryz.isAgg32 Tryz.sizeOf32 rfl) rfl rfl rfl ?_
        refine al_call Tryz.call24 (.cons rfl (.cons rfl .nil)) rfl rfl (fun w7 hs7 => ?_)
        refine (rfixed_any R M Q C _ (hM.below hs7.below) (hC.below hs7.below)).mono ?_
        rintro e u7 ⟨A_q, n_q, c_q, rfl, I_q, F_q, L_q, hb_7⟩
        refine ⟨_, rfl, hb_7, ?_⟩
        clear hs7
        refine al_q (q_move rfl) rfl rfl rfl ?_
        refine al_q (q_extract rfl rfl) rfl rfl rfl ?_
        refine al_q (q_extract rfl rfl) rfl rfl rfl ?_
        refine al_q (q_assign rfl) rfl rfl rfl ?_
        refine al_q (q_assign rfl) rfl rfl rfl ?_
        refine al_end ?_
        refine aq_then ?_
        refine aq_keepL [3, 4, 6, 12, 13, 14, 15] (.cons rfl (.cons rfl (.cons rfl (.cons rfl (.cons rfl (.cons rfl (.cons rfl .nil))))))) ?_
        refine ac_seq ?_
        refine ac_seq ?_
        have hnm : n_p = n_q := by have h1 := I_p.1; have h2 := I_q.1; omega
        refine ac_region ?_
        refine al_q (q_move rfl) rfl rfl rfl ?_
        refine al_q (q_move rfl) rfl rfl rfl ?_
        refine al_q (q_same (v' := .bool false) (q_neq rfl rfl) (by simp)) rfl rfl rfl ?_
        refine al_q (q_move rfl) rfl rfl rfl ?_
        refine al_q (q_move rfl) rfl rfl rfl ?_
        refine al_q (q_lenS rfl Tryz.runUnderlying39) rfl rfl rfl ?_
        refine al_q (q_move rfl) rfl rfl rfl ?_
        refine al_q (q_lenS rfl Tryz.runUnderlying39) rfl rfl rfl ?_
        refine al_q (q_same (v' := .bool false) (q_neq rfl rfl) (by rw [hnm]; simp)) rfl rfl rfl ?_
        refine al_q (q_pickF rfl rfl) rfl rfl rfl ?_
        refine al_end ?_
        refine aq_then ?_
        refine ac_condF rfl ?_
        refine ac_skip ?_
        refine aq_then ?_
        refine ac_seq ?_
        refine ac_seq ?_
        refine ac_region ?_
        refine al_q (q_assign rfl) rfl rfl rfl ?_
        refine al_end ?_
        refine aq_then ?_
        refine ac_block ?_
        refine ac_loop (β := Nat) (fun k => True) (fun k => [(3, (.pointer (some ⟨b1, 0, none⟩))), (4, (.pointer (some ⟨b2, 0, none⟩))), (6, (.bool false)), (12, (.slice A_p n_p c_p)), (13, (.int .i64 (fxE M C))), (14, (.slice A_q n_q c_q)), (16, (.int .i64 (k : Int)))]) (fun _ => _) (fun k => [(b2, _), (b1, _)]) (fun k => n_p - k) 0 trivial ⟨rfl, rfl, rfl, rfl, rfl, rfl, rfl, trivial⟩ (fun w9 hs => hs) (fun k hF2 => ?_)
        refine ac_seq ?_
        refine ac_seq ?_
        refine ac_region ?_
        refine al_q (q_move rfl) rfl rfl rfl ?_
        refine al_q (q_move rfl) rfl rfl rfl ?_
        refine al_q (q_lenS rfl Tryz.runUnderlying39) rfl rfl rfl ?_
        refine al_q (q_lss rfl rfl) rfl rfl rfl ?_
        refine al_end ?_
        refine aq_then ?_
        refine ac_cond rfl (fun h3 => ?_) (fun h3 => ?_)
        · have hkn : k < n_p := by have := of_decide_eq_true h3; omega
          have hr0 : fxE M C = 0 := Classical.byContradiction fun h => by rw [if_neg h] at I_p; have := I_p.1; simp at this; omega
          rw [if_pos hr0] at I_p I_q
          have t1 : n_p = C.plasma.length := by have := I_p.1; rw [fxL, lst_length] at this; omega
          have t2 : n_q = C.plasma.length := by have := I_q.1; rw [fxL, lst_length] at this; omega
          obtain ⟨b_p, o_p, hA_p, hlt_p, hget_p⟩ := I_p.2 (by omega)
          have hx_p : (fxL C)[k]? = some (⟨iA C.plasma k, iA C.plasma k⟩ : SpanD) := lst_get _ (by omega)
          obtain ⟨b_q, o_q, hA_q, hlt_q, hget_q⟩ := I_q.2 (by omega)
          have hx_q : (fxL C)[k]? = some (⟨iA C.plasma k, iA C.plasma k⟩ : SpanD) := lst_get _ (by omega)
          refine ac_skip ?_
          refine aq_then ?_
          refine ac_seq ?_
          refine ac_block ?_
          refine ac_seq ?_
          refine ac_draw 8 (by kernel_rfl) (by kernel_rfl) ?_
          refine ah_take 0 (fun w9 hs => hs) rfl rfl rfl (by kernel_rfl) (by kernel_rfl) (by kernel_rfl) (fun _ _ _ h => h) rfl (q_move rfl) ?_
          refine ah_take 1 (fun w9 hs => hs) rfl rfl rfl (by kernel_rfl) (by kernel_rfl) (by kernel_rfl) (fun _ _ _ h => h) rfl (q_move rfl) ?_
          refine ah_take 2 (fun w9 hs => hs) rfl rfl rfl (by kernel_rfl) (by kernel_rfl) (by kernel_rfl) (fun _ _ _ h => h) rfl (q_indexAddrA (i := k) (o_p + k * 2 + 0) hA_p rfl rfl rfl (by omega) Tryz.runUnderlying39 Tryz.sizeOf44 rfl) ?_
          refine ah_take 3 (fun w9 hs => hs) rfl rfl rfl (by kernel_rfl) (by kernel_rfl) (by kernel_rfl) (fun _ _ _ h => h) rfl (q_loadXs (SpanD.cells (⟨iA C.plasma k, iA C.plasma k⟩ : SpanD)) rfl Tryz.isAgg44 Tryz.sizeOf44 (fun w9 hs j9 v9 h9 => by rw [addr_add]; exact (hs.cellOf (.tail _ (.head _)) (F_p _ _ hA_p) hlt_p (hget_p k _ hx_p j9 v9 h9))) rfl) ?_
          refine ah_take 4 (fun w9 hs => hs) rfl rfl rfl (by kernel_rfl) (by kernel_rfl) (by kernel_rfl) (fun _ _ _ h => h) rfl (q_move rfl) ?_
          refine ah_take 5 (fun w9 hs => hs) rfl rfl rfl (by kernel_rfl) (by kernel_rfl) (by kernel_rfl) (fun _ _ _ h => h) rfl (q_move rfl) ?_
          refine ah_take 6 (fun w9 hs => hs) rfl rfl rfl (by kernel_rfl) (by kernel_rfl) (by kernel_rfl) (fun _ _ _ h => h) rfl (q_indexAddrA (i := k) (o_q + k * 2 + 0) hA_q rfl rfl rfl (by omega) Tryz.runUnderlying39 Tryz.sizeOf44 rfl) ?_
          refine ah_take 7 (fun w9 hs => hs) rfl rfl rfl (by kernel_rfl) (by kernel_rfl) (by kernel_rfl) (fun _ _ _ h => h) rfl (q_loadXs (SpanD.cells (⟨iA C.plasma k, iA C.plasma k⟩ : SpanD)) rfl Tryz.isAgg44 Tryz.sizeOf44 (fun w9 hs j9 v9 h9 => by rw [addr_add]; exact (hs.cellOf (.head _) (F_q _ _ hA_q) hlt_q (hget_q k _ hx_q j9 v9 h9))) rfl) ?_
          refine ah_take 8 (fun w9 hs => hs) rfl rfl rfl (by kernel_rfl) (by kernel_rfl) (by kernel_rfl) (fun _ _ _ h => h) rfl (q_same (v' := .bool false) (q_cmpS rfl rfl (by kernel_rfl) (csg_eq_neq_apiSpan _ _ _ _)) (by simp)) ?_
          refine ah_done (by kernel_rfl) ?_
          refine aq_then ?_
          refine ac_condF rfl ?_
          refine ac_skip ?_
          refine aq_inN ?_
          refine aq_then ?_
          refine ac_region ?_
          refine al_q (q_move rfl) rfl rfl rfl ?_
          refine al_q (q_add rfl rfl (by omega)) rfl rfl rfl ?_
          refine al_q (q_assign rfl) rfl rfl rfl ?_
          refine al_end ?_
          refine aq_then ?_
          skip
          refine aq_round (k + 1) (by omega) trivial ⟨rfl, rfl, rfl, rfl, rfl, rfl, rfl, trivial⟩ (fun w9 hs => hs)
        · skip
          refine ac_exit ?_
          refine aq_thenE ?_
          refine aq_thenE ?_
          refine aq_hit ?_
          refine aq_then ?_
          refine ac_seq ?_
          refine ac_region ?_
          refine al_q (q_move rfl) rfl rfl rfl ?_
          refine al_q (q_neq rfl rfl) rfl rfl rfl ?_
          refine al_q (q_move rfl) rfl rfl rfl ?_
          refine aq_split 102 rfl (fun hb2 => ?_) (fun hb2 => ?_)
          · skip
            refine al_skip rfl rfl rfl ?_
            refine al_skip rfl rfl rfl ?_
            refine al_skip rfl rfl rfl ?_
            refine al_skip rfl rfl rfl ?_
            refine al_skip rfl rfl rfl ?_
            refine al_skip rfl rfl rfl ?_
            refine al_skip rfl rfl rfl ?_
            refine al_skip rfl rfl rfl ?_
            refine al_skip rfl rfl rfl ?_
            refine al_skip rfl rfl rfl ?_
            refine al_skip rfl rfl rfl ?_
            refine al_q (q_pickT rfl rfl) rfl rfl rfl ?_
            refine al_q (q_assign rfl) rfl rfl rfl ?_
            refine al_end ?_
            refine aq_then ?_
            refine ac_ret ?_
            refine ret1 Tryz.results5 rfl (fun w9 hs => ?_)
            exact ⟨rfl, hs.below⟩
          · have hq0 : fxE M C = 0 := by simpa using hb2
            have hf : Fit2 M C := by unfold fxE at hq0; split at hq0; exact fit2_iff.1 (by assumption); cases hq0
            rw [if_pos hq0] at I_p
            have hcc := cellsC_eq hf.check
            have hcb := cellN_bd hf.check
            have hpl := hf.plasma.1
            have hcs8 : (cellN M : Int) = M.grid.nr * M.grid.nz := by unfold cellN at hcb ⊢; omega
            have t5 : n_p = C.plasma.length := by have := I_p.1; rw [fxL, lst_length] at this; omega
            refine al_q (q_move rfl) rfl rfl rfl ?_
            refine al_q (q_fieldAddr 2 rfl Tryz.runUnderlying32 rfl Tryz.sizeOf30 (by decide) rfl) rfl rfl rfl ?_
            refine al_q (q_load (i := 0) rfl rfl rfl Tryz.isAgg30) rfl rfl rfl ?_
            refine al_call Tryz.call25 (.cons rfl (.cons rfl .nil)) rfl rfl (fun w8 hs8 => ?_)
            refine (holds5_any A_p n_p c_p Q C _ (hs8.isT (.tail _ (.head _)) I_p (fun b o e => Or.inl (F_p b o e))) (hC.below hs8.below)).mono ?_
            rintro e u8 ⟨rfl, hb_8⟩
            refine ⟨_, rfl, hb_8, ?_⟩
            clear hs8
            refine al_q (q_move rfl) rfl rfl rfl ?_
            refine al_q (q_move rfl) rfl rfl rfl ?_
            refine al_q (q_lenS rfl Tryz.runUnderlying39) rfl rfl rfl ?_
            refine al_q (q_loadAll (i := 1) rfl rfl Tryz.isAgg29 Tryz.sizeOf29 rfl) rfl rfl rfl ?_
            refine al_call Tryz.call26 (.cons rfl .nil) rfl rfl (fun w9 hs9 => ?_)
            refine (rcells2_any R M _ (hM.below hs9.below)).mono ?_
            rintro e u9 ⟨rfl, hb_9⟩
            refine ⟨_, rfl, hb_9, ?_⟩
            clear hs9
            refine al_q (q_same (v' := .bool true) (q_eql rfl rfl) (by rw [hcc, show (n_p : Int) = (cellN M : Int) by omega]; simp)) rfl rfl rfl ?_
            refine al_q (q_pickT rfl rfl) rfl rfl rfl ?_
            refine al_q (q_pickF rfl rfl) rfl rfl rfl ?_
            refine al_q (q_assign rfl) rfl rfl rfl ?_
            refine al_end ?_
            refine aq_then ?_
            refine ac_ret ?_
            refine ret1 Tryz.results5 rfl (fun w9 hs => ?_)
            exact ⟨rfl, hs.below⟩

end Go.Proofs.YtnikdbglpimadaaGreat
end
