import Derived.Test.YtnikdbglpimadaaGreatJAS
import Derived.Test.YtnikdbglpimadaaGreatJAU
import Derived.Test.YtnikdbglpimadaaGreatJBG
import Derived.Test.YtnikdbglpimadaaGreatRows
import Derived.KernelRfl
import Derived.Laws.StructEq
section
/- Package control: Cut on both sides, over this seat's translation (written by ax_cs3.py). -/
namespace Go.Proofs.YtnikdbglpimadaaGreat
set_option linter.unusedVariables false
set_option linter.unusedSimpArgs false
open Go.RowKit

def cutB (M : MachD) (S : StD) (ws : List Int) (k : Nat) : Bool := !wthn (iA ws k) (roomN M S k).lo (roomN M S k).hi
def cutT (M : MachD) (S : StD) (ws : List Int) : Nat → List Int
  | 0 => []
  | k + 1 => if cutB M S ws k = true then cutT M S ws k ++ [(k : Int)] else cutT M S ws k
def cutE7 (M : MachD) (S : StD) (ws : List Int) : Int := if validS M S = true ∧ ws.length = M.coils.length ∧ numB ws = true then 0 else 1
theorem cutT_len (M : MachD) (S : StD) (ws : List Int) : ∀ k : Nat, (cutT M S ws k).length ≤ k
  | 0 => Nat.le_refl _
  | k + 1 => by
    have := cutT_len M S ws k
    simp only [cutT]; split
    · rw [List.length_append]; simp; omega
    · omega
theorem roomE_zero {M : MachD} {S : StD} (h : roomE M S = 0) : FitS M S := by
  unfold roomE at h; split at h
  · exact fitS_iff.1 (by assumption)
  · cases h
theorem room_vld {M : MachD} {S : StD} (hf : FitS M S) {k : Nat} (hk : k < M.coils.length) : vld (roomN M S k).lo (roomN M S k).hi = true := by
  have hco := cA_ok hf.cur.check hk
  have q1 := hco.cur
  have q2 := hco.step
  rw [vld_iff]
  unfold roomN
  split
  · rename_i h
    have := wthn_iff.1 h.2
    simp only
    omega
  · simp
theorem cont_room {M : MachD} {S : StD} (hf : FitS M S) {k : Nat} (hk : k < M.coils.length) (n : Int) : cont (roomN M S k).lo (roomN M S k).hi n = wthn n (roomN M S k).lo (roomN M S k).hi := by
  unfold cont; rw [room_vld hf hk, Bool.true_and]; rfl

theorem csd_bs_int_1_0_ (a0 : Value) (ha0 : a0.oneCell' = true) : ∀ w, (Instr.buildSlice 30 1 #[(0, a0)]).run Tryz.prog w = .ok (.slice (some ⟨w.heap.size, 0, none⟩) 1 1) (w.alloc (.cells [a0].toArray 3)) := by
  have ea0 : a0.cells = #[a0] := cells_one ha0
  intro w; (simp [Instr.buildSlice, Instr.fill, cells_agg, newRow, Tryz.runUnderlying30, Tryz.zeroValue3, Tryz.sizeOf3, ea0] <;> (rw [(by kernel_rfl : Array.range 1 = #[0])]; simp [Value.cells]))

set_option maxRecDepth 100000 in
theorem kcut7_any (R : MachR) (M : MachD) (RS : StR) (S : StD) (A1 : Option Addr) (l1 c1 : Nat) (ws : List Int) (w : World) (hM : IsM w R M) (hS : IsS w RS S) (i1 : IsT 1 intCells w A1 l1 ws) (hl1 : l1 ≤ 1000) : Calls Tryz.prog 11 #[(.agg (machCells R M)), (RS.v S.tick), (.slice A1 l1 c1)] w (OutL w (cutE7 M S ws) (cutT M S ws M.coils.length)) := by
  have n1 := i1.1
  have n2 := hM.coils.1
  refine calls_ax (vs := [(.agg (machCells R M)), (RS.v S.tick), (.slice A1 l1 c1)]) Tryz.func11 rfl rfl ?_
  refine ac_seq ?_
  refine ac_region ?_
  refine al_new (fun b => .pointer (some ⟨b, 0, none⟩)) (r_box rfl rfl) rfl rfl rfl ?_
  intro b1
  refine al_new (fun b => .pointer (some ⟨b, 0, none⟩)) (r_box rfl rfl) rfl rfl rfl ?_
  intro b2
  refine al_q (q_assign rfl) rfl rfl rfl ?_
  refine al_q (q_assign rfl) rfl rfl rfl ?_
  refine al_end ?_
  refine aq_then ?_
  refine ac_seq ?_
  refine ac_region ?_
  refine al_q (q_loadAll (i := 1) rfl rfl Tryz.isAgg29 Tryz.sizeOf29 rfl) rfl rfl rfl ?_
  refine al_q (q_loadAll (i := 0) rfl rfl Tryz.isAgg35 Tryz.sizeOf35 rfl) rfl rfl rfl ?_
  refine al_call Tryz.call9 (.cons rfl (.cons rfl .nil)) rfl rfl (fun w1 hs1 => ?_)
  refine (croom_any R M RS S _ (hM.below hs1.below) (hS.below hs1.below)).mono ?_
  rintro e u1 ⟨A_r, n_r, c_r, rfl, I_r, F_r, L_r, hb_1⟩
  refine ⟨_, rfl, hb_1, ?_⟩
  clear hs1
  refine al_q (q_move rfl) rfl rfl rfl ?_
  refine al_q (q_extract rfl rfl) rfl rfl rfl ?_
  refine al_q (q_extract rfl rfl) rfl rfl rfl ?_
  refine al_q (q_assign rfl) rfl rfl rfl ?_
  refine al_q (q_assign rfl) rfl rfl rfl ?_
  refine al_end ?_
  refine aq_then ?_
  refine ac_seq ?_
  refine ac_seq ?_
  refine ac_region ?_
  refine al_q (q_move rfl) rfl rfl rfl ?_
  refine al_q (q_neq rfl rfl) rfl rfl rfl ?_
  refine al_q (q_move rfl) rfl rfl rfl ?_
  refine aq_split 21 rfl (fun hb1 => ?_) (fun hb1 => ?_)
  · have hE : cutE7 M S ws = 1 := if_neg (fun h => by have hv0 : roomE M S = 0 := if_pos h.1; rw [hv0] at hb1; cases hb1)
    refine al_skip rfl rfl rfl ?_
    refine al_skip rfl rfl rfl ?_
    refine al_skip rfl rfl rfl ?_
    refine al_skip rfl rfl rfl ?_
    refine al_skip rfl rfl rfl ?_
    refine al_q (q_pickT rfl rfl) rfl rfl rfl ?_
    refine al_q (q_move rfl) rfl rfl rfl ?_
    refine al_skip rfl rfl rfl ?_
    refine al_skip rfl rfl rfl ?_
    refine al_skip rfl rfl rfl ?_
    refine al_q (q_pickT rfl rfl) rfl rfl rfl ?_
    refine al_end ?_
    refine aq_then ?_
    refine ac_condT rfl ?_
    refine ac_seq ?_
    refine ac_region ?_
    refine al_q (q_assign rfl) rfl rfl rfl ?_
    refine al_q (q_assign rfl) rfl rfl rfl ?_
    refine al_end ?_
    refine aq_then ?_
    refine ac_ret ?_
    refine aq_thenR ?_
    refine ret2 Tryz.results11 rfl rfl (fun w9 hs => ?_)
    rw [hE]; exact OutL.bad (by decide) hs.below
  · have hr0 : roomE M S = 0 := by simpa using hb1
    rw [if_pos hr0] at I_r
    have n3 : n_r = M.coils.length := by have := I_r.1; rw [roomL, lst_length] at this; omega
    refine al_q (q_move rfl) rfl rfl rfl ?_
    refine al_q (q_lenS rfl Tryz.runUnderlying30) rfl rfl rfl ?_
    refine al_q (q_move rfl) rfl rfl rfl ?_
    refine al_q (q_lenS rfl Tryz.runUnderlying39) rfl rfl rfl ?_
    refine al_q (q_neq rfl rfl) rfl rfl rfl ?_
    refine al_q (q_pickF rfl rfl) rfl rfl rfl ?_
    refine al_q (q_move rfl) rfl rfl rfl ?_
    refine aq_split 28 rfl (fun hb2 => ?_) (fun hb2 => ?_)
    · have hE : cutE7 M S ws = 1 := if_neg (fun h => by have g := h.2.1; have g2 := n1; have g3 := n2; simp at hb2; omega)
      refine al_skip rfl rfl rfl ?_
      refine al_skip rfl rfl rfl ?_
      refine al_skip rfl rfl rfl ?_
      refine al_q (q_pickT rfl rfl) rfl rfl rfl ?_
      refine al_end ?_
      refine aq_then ?_
      refine ac_condT rfl ?_
      refine ac_seq ?_
      refine ac_region ?_
      refine al_q (q_assign rfl) rfl rfl rfl ?_
      refine al_q (q_assign rfl) rfl rfl rfl ?_
      refine al_end ?_
      refine aq_then ?_
      refine ac_ret ?_
      refine aq_thenR ?_
      refine ret2 Tryz.results11 rfl rfl (fun w9 hs => ?_)
      rw [hE]; exact OutL.bad (by decide) hs.below
    · have hll : l1 = M.coils.length := by simp at hb2; omega
      refine al_q (q_move rfl) rfl rfl rfl ?_
      refine al_call Tryz.call35 (.cons rfl .nil) rfl rfl (fun w2 hs2 => ?_)
      refine (validNumbers_any A1 l1 c1 ws _ (i1.below hs2.below) (by omega)).mono ?_
      rintro e u2 ⟨rfl, hb_2⟩
      refine ⟨_, rfl, hb_2, ?_⟩
      clear hs2
      refine al_q (q_not rfl) rfl rfl rfl ?_
      refine al_q (q_pickF rfl rfl) rfl rfl rfl ?_
      refine al_end ?_
      refine aq_then ?_
      refine ac_cond rfl (fun h1 => ?_) (fun h1 => ?_)
      · have hE : cutE7 M S ws = 1 := if_neg (fun h => by rw [h.2.2] at h1; cases h1)
        refine ac_seq ?_
        refine ac_region ?_
        refine al_q (q_assign rfl) rfl rfl rfl ?_
        refine al_q (q_assign rfl) rfl rfl rfl ?_
        refine al_end ?_
        refine aq_then ?_
        refine ac_ret ?_
        refine aq_thenR ?_
        refine ret2 Tryz.results11 rfl rfl (fun w9 hs => ?_)
        rw [hE]; exact OutL.bad (by decide) hs.below
      · have hnb : numB ws = true := by simpa using h1
        have hf := roomE_zero hr0
        have hE : cutE7 M S ws = 0 := if_pos ⟨fitS_iff.2 hf, by omega, hnb⟩
        have n5 := (sound_of hf.cur.check).coils.1
        refine ac_skip ?_
        refine aq_then ?_
        refine ac_seq ?_
        refine ac_region ?_
        refine al_q (q_assign rfl) rfl rfl rfl ?_
        refine al_end ?_
        refine aq_then ?_
        refine ac_seq ?_
        refine ac_seq ?_
        refine ac_region ?_
        refine al_q (q_move rfl) rfl rfl rfl ?_
        refine al_q (q_lenS rfl Tryz.runUnderlying30) rfl rfl rfl ?_
        refine al_q (q_move rfl) rfl rfl rfl ?_
        refine al_end ?_
        refine aq_then ?_
        refine ac_block ?_
        refine ac_loop (β := Nat × Gr × List Value) (fun k => k.1 ≤ M.coils.length ∧ gok k.2.1 (cutT M S ws k.1).length 1 k.2.2 ∧ k.2.2 = (cutT M S ws k.1).map (Value.int .i64)) (fun k => [(6, (.slice none 0 0)), (7, (.int .i64 0)), (8, (.slice A_r n_r c_r)), (10, (.slice (gA k.2.1) (cutT M S ws k.1).length (gC k.2.1))), (33, (.slice A1 l1 c1)), (34, (.int .i64 (l1 : Int))), (35, (.int .i64 (k.1 : Int)))]) (fun _ => _) (fun k => (b2, _) :: (b1, _) :: (gt k.2.1 k.2.2 ++ ([]))) (fun k => M.coils.length - k.1) (0, none, []) ⟨by simp, gok.none 1, rfl⟩ ⟨rfl, rfl, rfl, rfl, rfl, rfl, rfl, trivial⟩ (fun w9 hs => (by rw [show gt none [] = [] from rfl, List.nil_append]; exact hs)) (fun k hF1 => ?_)
        obtain ⟨hla, hgk, hcs⟩ := hF1
        have htl := cutT_len M S ws k.1
        refine ac_seq ?_
        refine ac_region ?_
        refine al_q (q_lss rfl rfl) rfl rfl rfl ?_
        refine al_end ?_
        refine aq_then ?_
        refine ac_seq ?_
        refine ac_cond rfl (fun h2 => ?_) (fun h2 => ?_)
        · have hkl : k.1 < M.coils.length := by have := of_decide_eq_true h2; omega
          obtain ⟨b_r, o_r, hA_r, hlt_r, hget_r⟩ := I_r.2 (by omega)
          have hx_r : (roomL M S)[k.1]? = some (roomN M S k.1) := lst_get _ (by omega)
          obtain ⟨b41, o41, hA4, hlt4, hget4⟩ := i1.2 (by omega)
          have hx4 := iA_get (l := ws) (k := k.1) (by omega)
          refine ac_skip ?_
          refine aq_then ?_
          refine ac_seq ?_
          refine ac_block ?_
          refine ac_seq ?_
          refine ac_region ?_
          refine al_q (q_move rfl) rfl rfl rfl ?_
          refine al_q (q_indexAddrA (i := k.1) (o41 + k.1 * 1 + 0) hA4 rfl rfl rfl (by omega) Tryz.runUnderlying30 Tryz.sizeOf3 rfl) rfl rfl rfl ?_
          refine al_q (q_loadX rfl Tryz.isAgg3 (fun w9 hs => (hs.below.cell (p := ⟨_, _, none⟩) hlt4).trans ((hget4 k.1 _ hx4) 0 _ rfl))) rfl rfl rfl ?_
          refine al_q (q_assign rfl) rfl rfl rfl ?_
          refine al_q (q_assign rfl) rfl rfl rfl ?_
          refine al_end ?_
          refine aq_then ?_
          refine ac_seq ?_
          refine ac_region ?_
          refine al_q (q_move rfl) rfl rfl rfl ?_
          refine al_q (q_move rfl) rfl rfl rfl ?_
          refine al_q (q_indexAddrA (i := k.1) (o_r + k.1 * 2 + 0) hA_r rfl rfl rfl (by omega) Tryz.runUnderlying39 Tryz.sizeOf44 rfl) rfl rfl rfl ?_
          refine al_q (q_loadXs (SpanD.cells (roomN M S k.1)) rfl Tryz.isAgg44 Tryz.sizeOf44 (fun w9 hs j9 v9 h9 => by rw [addr_add]; exact (hs.cellOf (.tail _ (.head _)) (F_r _ _ hA_r) hlt_r (hget_r k.1 _ hx_r j9 v9 h9))) rfl) rfl rfl rfl ?_
          refine al_q (q_move rfl) rfl rfl rfl ?_
          refine al_call Tryz.call36 (.cons rfl (.cons rfl .nil)) rfl rfl (fun w3 hs3 => ?_)
          refine (contains_any (roomN M S k.1).lo (roomN M S k.1).hi (iA ws k.1) _).mono ?_
          rintro e u3 ⟨rfl, hb_3⟩
          refine ⟨_, rfl, hb_3, ?_⟩
          clear hs3
          refine al_q (q_not rfl) rfl rfl rfl ?_
          refine al_end ?_
          refine aq_then ?_
          refine ac_cond rfl (fun h3 => ?_) (fun h3 => ?_)
          · have hcb : cutB M S ws k.1 = true := by unfold cutB; rw [← cont_room hf (by omega)]; simpa using h3
            have hct : cutT M S ws (k.1 + 1) = cutT M S ws k.1 ++ [(k.1 : Int)] := if_pos hcb
            refine ac_region ?_
            refine al_q (q_move rfl) rfl rfl rfl ?_
            refine al_q (q_move rfl) rfl rfl rfl ?_
            refine al_new (fun b => .slice (some ⟨b, 0, none⟩) 1 1) (r_buildSlice (.cons rfl .nil) (csd_bs_int_1_0_ _ rfl)) rfl rfl rfl ?_
            intro b3
            refine al_grow (z := 1) (bytes := 8) (zv := (.int .i64 0)) (o := k.2.1) (cs := k.2.2) (vs := [.int .i64 (k.1 : Int)]) rfl rfl (.s (.s (.s (.z)))) hgk (Sor.box (j := 0) rfl rfl rfl) Tryz.underlying30 (by kernel_rfl) rfl (by omega) (by decide) rfl rfl (fun o_1 g_1 => ?_)
            refine ⟨_, (.s (.s (.s (.z)))), ?_⟩
            refine al_q (q_assign rfl) rfl rfl rfl ?_
            refine al_end ?_
            refine aq_inN ?_
            refine aq_then ?_
            refine ac_region ?_
            refine al_q (q_add rfl rfl (by omega)) rfl rfl rfl ?_
            refine al_q (q_move rfl) rfl rfl rfl ?_
            refine al_end ?_
            refine aq_then ?_
            skip
            refine aq_round ((k.1 + 1, o_1, (k.2.2 ++ [.int .i64 (k.1 : Int)]))) (by simp only; omega) ⟨by simp only; omega, by simp only; rw [hct, List.length_append]; exact g_1, by simp only; rw [hct, hcs, List.map_append]; rfl⟩ ⟨rfl, rfl, rfl, (by simp only; rw [hct]; first | rfl | (rw [List.length_append]; rfl)), rfl, rfl, rfl, trivial⟩ (fun w9 hs => ((hs.fewer 1 rfl).tail 1 rfl))
          · have hcb : cutB M S ws k.1 = false := by unfold cutB; rw [← cont_room hf (by omega)]; simpa using h3
            have hct : cutT M S ws (k.1 + 1) = cutT M S ws k.1 := if_neg (by rw [hcb]; decide)
            refine ac_skip ?_
            refine aq_inN ?_
            refine aq_then ?_
            refine ac_region ?_
            refine al_q (q_add rfl rfl (by omega)) rfl rfl rfl ?_
            refine al_q (q_move rfl) rfl rfl rfl ?_
            refine al_end ?_
            refine aq_then ?_
            skip
            refine aq_round ((k.1 + 1, k.2.1, k.2.2)) (by simp only; omega) ⟨by simp only; omega, by simp only; rw [hct]; exact hgk, by simp only; rw [hct]; exact hcs⟩ ⟨rfl, rfl, rfl, (by simp only; rw [hct]; first | rfl | (rw [List.length_append]; rfl)), rfl, rfl, rfl, trivial⟩ (fun w9 hs => (hs.fewer 1 rfl))
        · have hke : k.1 = M.coils.length := by have := of_decide_eq_false h2; omega
          refine ac_exit ?_
          refine aq_thenE ?_
          refine aq_thenE ?_
          refine aq_hit ?_
          refine aq_then ?_
          refine ac_seq ?_
          refine ac_region ?_
          refine al_q (q_move rfl) rfl rfl rfl ?_
          refine al_q (q_assign rfl) rfl rfl rfl ?_
          refine al_q (q_assign rfl) rfl rfl rfl ?_
          refine al_end ?_
          refine aq_then ?_
          refine ac_ret ?_
          refine ret2 Tryz.results11 rfl rfl (fun w9 hs => ?_)
          rw [hE, ← hke]; exact OutL.ok (hs.grown (enc := intCells) (o := k.2.1) (cs := k.2.2) (zs := cutT M S ws k.1) (fun _ => rfl) (fun y hy => by simp [hy]) hgk (by rw [hcs, flat_int]) rfl) (by omega) hs.below

set_option maxRecDepth 100000 in
theorem rcut7_any (R : MachR) (M : MachD) (RS : StR) (S : StD) (A1 : Option Addr) (l1 c1 : Nat) (ws : List Int) (w : World) (hM : IsM w R M) (hS : IsS w RS S) (i1 : IsT 1 intCells w A1 l1 ws) (hl1 : l1 ≤ 1000) : Calls Tryz.prog 12 #[(.agg (machCells R M)), (RS.v S.tick), (.slice A1 l1 c1)] w (OutL w (cutE7 M S ws) (cutT M S ws M.coils.length)) := by
  have n1 := i1.1
  have n2 := hM.coils.1
  refine calls_ax (vs := [(.agg (machCells R M)), (RS.v S.tick), (.slice A1 l1 c1)]) Tryz.func12 rfl rfl ?_
  refine ac_seq ?_
  refine ac_region ?_
  refine al_new (fun b => .pointer (some ⟨b, 0, none⟩)) (r_box rfl rfl) rfl rfl rfl ?_
  intro b1
  refine al_new (fun b => .pointer (some ⟨b, 0, none⟩)) (r_box rfl rfl) rfl rfl rfl ?_
  intro b2
  refine al_q (q_assign rfl) rfl rfl rfl ?_
  refine al_q (q_assign rfl) rfl rfl rfl ?_
  refine al_end ?_
  refine aq_then ?_
  refine ac_seq ?_
  refine ac_region ?_
  refine al_q (q_loadAll (i := 1) rfl rfl Tryz.isAgg29 Tryz.sizeOf29 rfl) rfl rfl rfl ?_
  refine al_q (q_loadAll (i := 0) rfl rfl Tryz.isAgg35 Tryz.sizeOf35 rfl) rfl rfl rfl ?_
  refine al_call Tryz.call10 (.cons rfl (.cons rfl .nil)) rfl rfl (fun w1 hs1 => ?_)
  refine (rroom_any R M RS S _ (hM.below hs1.below) (hS.below hs1.below)).mono ?_
  rintro e u1 ⟨A_r, n_r, c_r, rfl, I_r, F_r, L_r, hb_1⟩
  refine ⟨_, rfl, hb_1, ?_⟩
  clear hs1
  refine al_q (q_move rfl) rfl rfl rfl ?_
  refine al_q (q_extract rfl rfl) rfl rfl rfl ?_
  refine al_q (q_extract rfl rfl) rfl rfl rfl ?_
  refine al_q (q_assign rfl) rfl rfl rfl ?_
  refine al_q (q_assign rfl) rfl rfl rfl ?_
  refine al_end ?_
  refine aq_then ?_
  refine ac_seq ?_
  refine ac_seq ?_
  refine ac_region ?_
  refine al_q (q_move rfl) rfl rfl rfl ?_
  refine al_q (q_neq rfl rfl) rfl rfl rfl ?_
  refine al_q (q_move rfl) rfl rfl rfl ?_
  refine aq_split 20 rfl (fun hb1 => ?_) (fun hb1 => ?_)
  · have hE : cutE7 M S ws = 1 := if_neg (fun h => by have hv0 : roomE M S = 0 := if_pos h.1; rw [hv0] at hb1; cases hb1)
    refine al_skip rfl rfl rfl ?_
    refine al_skip rfl rfl rfl ?_
    refine al_skip rfl rfl rfl ?_
    refine al_skip rfl rfl rfl ?_
    refine al_skip rfl rfl rfl ?_
    refine al_skip rfl rfl rfl ?_
    refine al_q (q_pickT rfl rfl) rfl rfl rfl ?_
    refine al_q (q_move rfl) rfl rfl rfl ?_
    refine al_skip rfl rfl rfl ?_
    refine al_skip rfl rfl rfl ?_
    refine al_skip rfl rfl rfl ?_
    refine al_q (q_pickT rfl rfl) rfl rfl rfl ?_
    refine al_end ?_
    refine aq_then ?_
    refine ac_condT rfl ?_
    refine ac_seq ?_
    refine ac_region ?_
    refine al_q (q_assign rfl) rfl rfl rfl ?_
    refine al_q (q_assign rfl) rfl rfl rfl ?_
    refine al_end ?_
    refine aq_then ?_
    refine ac_ret ?_
    refine aq_thenR ?_
    refine ret2 Tryz.results12 rfl rfl (fun w9 hs => ?_)
    rw [hE]; exact OutL.bad (by decide) hs.below
  · have hr0 : roomE M S = 0 := by simpa using hb1
    rw [if_pos hr0] at I_r
    have n3 : n_r = M.coils.length := by have := I_r.1; rw [roomL, lst_length] at this; omega
    refine al_q (q_move rfl) rfl rfl rfl ?_
    refine al_q (q_lenS rfl Tryz.runUnderlying30) rfl rfl rfl ?_
    refine al_q (q_fieldAddr 1 rfl Tryz.runUnderlying29 rfl Tryz.sizeOf22 (by decide) rfl) rfl rfl rfl ?_
    refine al_q (q_load (i := 1) rfl rfl rfl Tryz.isAgg22) rfl rfl rfl ?_
    refine al_q (q_lenS rfl Tryz.runUnderlying22) rfl rfl rfl ?_
    refine al_q (q_neq rfl rfl) rfl rfl rfl ?_
    refine al_q (q_pickF rfl rfl) rfl rfl rfl ?_
    refine al_q (q_move rfl) rfl rfl rfl ?_
    refine aq_split 28 rfl (fun hb2 => ?_) (fun hb2 => ?_)
    · have hE : cutE7 M S ws = 1 := if_neg (fun h => by have g := h.2.1; have g2 := n1; have g3 := n2; simp at hb2; omega)
      refine al_skip rfl rfl rfl ?_
      refine al_skip rfl rfl rfl ?_
      refine al_skip rfl rfl rfl ?_
      refine al_q (q_pickT rfl rfl) rfl rfl rfl ?_
      refine al_end ?_
      refine aq_then ?_
      refine ac_condT rfl ?_
      refine ac_seq ?_
      refine ac_region ?_
      refine al_q (q_assign rfl) rfl rfl rfl ?_
      refine al_q (q_assign rfl) rfl rfl rfl ?_
      refine al_end ?_
      refine aq_then ?_
      refine ac_ret ?_
      refine aq_thenR ?_
      refine ret2 Tryz.results12 rfl rfl (fun w9 hs => ?_)
      rw [hE]; exact OutL.bad (by decide) hs.below
    · have hll : l1 = M.coils.length := by simp at hb2; omega
      refine al_q (q_move rfl) rfl rfl rfl ?_
      refine al_call Tryz.call37 (.cons rfl .nil) rfl rfl (fun w2 hs2 => ?_)
      refine (rnumbers_any A1 l1 c1 ws _ (i1.below hs2.below) (by omega)).mono ?_
      rintro e u2 ⟨rfl, hb_2⟩
      refine ⟨_, rfl, hb_2, ?_⟩
      clear hs2
      refine al_q (q_not rfl) rfl rfl rfl ?_
      refine al_q (q_pickF rfl rfl) rfl rfl rfl ?_
      refine al_end ?_
      refine aq_then ?_
      refine ac_cond rfl (fun h1 => ?_) (fun h1 => ?_)
      · have hE : cutE7 M S ws = 1 := if_neg (fun h => by rw [h.2.2] at h1; cases h1)
        refine ac_seq ?_
        refine ac_region ?_
        refine al_q (q_assign rfl) rfl rfl rfl ?_
        refine al_q (q_assign rfl) rfl rfl rfl ?_
        refine al_end ?_
        refine aq_then ?_
        refine ac_ret ?_
        refine aq_thenR ?_
        refine ret2 Tryz.results12 rfl rfl (fun w9 hs => ?_)
        rw [hE]; exact OutL.bad (by decide) hs.below
      · have hnb : numB ws = true := by simpa using h1
        have hf := roomE_zero hr0
        have hE : cutE7 M S ws = 0 := if_pos ⟨fitS_iff.2 hf, by omega, hnb⟩
        have n5 := (sound_of hf.cur.check).coils.1
        refine ac_skip ?_
        refine aq_then ?_
        refine ac_seq ?_
        refine ac_region ?_
        refine al_q (q_assign rfl) rfl rfl rfl ?_
        refine al_end ?_
        refine aq_then ?_
        refine ac_seq ?_
        refine ac_seq ?_
        refine ac_region ?_
        refine al_q (q_assign rfl) rfl rfl rfl ?_
        refine al_end ?_
        refine aq_then ?_
        refine ac_block ?_
        refine ac_loop (β := Nat × Gr × List Value) (fun k => k.1 ≤ M.coils.length ∧ gok k.2.1 (cutT M S ws k.1).length 1 k.2.2 ∧ k.2.2 = (cutT M S ws k.1).map (Value.int .i64)) (fun k => [(2, (.slice A1 l1 c1)), (6, (.slice none 0 0)), (7, (.int .i64 0)), (8, (.slice A_r n_r c_r)), (10, (.slice (gA k.2.1) (cutT M S ws k.1).length (gC k.2.1))), (11, (.int .i64 (k.1 : Int)))]) (fun _ => _) (fun k => (b2, _) :: (b1, _) :: (gt k.2.1 k.2.2 ++ ([]))) (fun k => M.coils.length - k.1) (0, none, []) ⟨by simp, gok.none 1, rfl⟩ ⟨rfl, rfl, rfl, rfl, rfl, rfl, trivial⟩ (fun w9 hs => (by rw [show gt none [] = [] from rfl, List.nil_append]; exact hs)) (fun k hF1 => ?_)
        obtain ⟨hla, hgk, hcs⟩ := hF1
        have htl := cutT_len M S ws k.1
        refine ac_seq ?_
        refine ac_seq ?_
        refine ac_region ?_
        refine al_q (q_move rfl) rfl rfl rfl ?_
        refine al_q (q_move rfl) rfl rfl rfl ?_
        refine al_q (q_lenS rfl Tryz.runUnderlying39) rfl rfl rfl ?_
        refine al_q (q_lss rfl rfl) rfl rfl rfl ?_
        refine al_end ?_
        refine aq_then ?_
        refine ac_cond rfl (fun h2 => ?_) (fun h2 => ?_)
        · have hkl : k.1 < M.coils.length := by have := of_decide_eq_true h2; omega
          obtain ⟨b_r, o_r, hA_r, hlt_r, hget_r⟩ := I_r.2 (by omega)
          have hx_r : (roomL M S)[k.1]? = some (roomN M S k.1) := lst_get _ (by omega)
          obtain ⟨b41, o41, hA4, hlt4, hget4⟩ := i1.2 (by omega)
          have hx4 := iA_get (l := ws) (k := k.1) (by omega)
          refine ac_skip ?_
          refine aq_then ?_
          refine ac_seq ?_
          refine ac_block ?_
          refine ac_seq ?_
          refine ac_drawF 15 (.s (.s .z)) (by kernel_rfl) (by kernel_rfl) ?_
          refine ah_take 0 (fun w9 hs => (hs.front (.s (.s (.z))))) rfl rfl rfl (by kernel_rfl) (by kernel_rfl) (by kernel_rfl) (fun _ _ _ h => h) rfl (q_move rfl) ?_
          refine ah_take 1 (fun w9 hs => (hs.front (.s (.s (.z))))) rfl rfl rfl (by kernel_rfl) (by kernel_rfl) (by kernel_rfl) (fun _ _ _ h => h) rfl (q_move rfl) ?_
          refine ah_take 2 (fun w9 hs => (hs.front (.s (.s (.z))))) rfl rfl rfl (by kernel_rfl) (by kernel_rfl) (by kernel_rfl) (fun _ _ _ h => h) rfl (q_indexAddrA (i := k.1) (o41 + k.1 * 1 + 0) hA4 rfl rfl rfl (by omega) Tryz.runUnderlying30 Tryz.sizeOf3 rfl) ?_
          refine ah_take 3 (fun w9 hs => (hs.front (.s (.s (.z))))) rfl rfl rfl (by kernel_rfl) (by kernel_rfl) (by kernel_rfl) (fun _ _ _ h => h) rfl (q_loadX rfl Tryz.isAgg3 (fun w9 hs => (hs.below.cell (p := ⟨_, _, none⟩) hlt4).trans ((hget4 k.1 _ hx4) 0 _ rfl))) ?_
          refine ah_take 4 (fun w9 hs => (hs.front (.s (.s (.z))))) rfl rfl rfl (by kernel_rfl) (by kernel_rfl) (by kernel_rfl) (fun _ _ _ h => h) rfl (q_move rfl) ?_
          refine ah_take 5 (fun w9 hs => (hs.front (.s (.s (.z))))) rfl rfl rfl (by kernel_rfl) (by kernel_rfl) (by kernel_rfl) (fun _ _ _ h => h) rfl (q_move rfl) ?_
          refine ah_take 6 (fun w9 hs => (hs.front (.s (.s (.z))))) rfl rfl rfl (by kernel_rfl) (by kernel_rfl) (by kernel_rfl) (fun _ _ _ h => h) rfl (q_indexAddrA (i := k.1) (o_r + k.1 * 2 + 0) hA_r rfl rfl rfl (by omega) Tryz.runUnderlying39 Tryz.sizeOf44 rfl) ?_
          refine ah_take 7 (fun w9 hs => (hs.front (.s (.s (.z))))) rfl rfl rfl (by kernel_rfl) (by kernel_rfl) (by kernel_rfl) (fun _ _ _ h => h) rfl (q_fieldAddr (o_r + k.1 * 2 + 0) rfl Tryz.runUnderlying44 rfl Tryz.sizeOf3 (by decide) rfl) ?_
          refine ah_take 8 (fun w9 hs => (hs.front (.s (.s (.z))))) rfl rfl rfl (by kernel_rfl) (by kernel_rfl) (by kernel_rfl) (fun _ _ _ h => h) rfl (q_loadX rfl Tryz.isAgg3 (fun w9 hs => (hs.cellOf (.tail _ (.head _)) (F_r _ _ hA_r) hlt_r (hget_r k.1 _ hx_r 0 _ rfl)))) ?_
          refine ah_take 9 (fun w9 hs => (hs.front (.s (.s (.z))))) rfl rfl rfl (by kernel_rfl) (by kernel_rfl) (by kernel_rfl) (fun _ _ _ h => h) rfl (q_move rfl) ?_
          refine ah_take 10 (fun w9 hs => (hs.front (.s (.s (.z))))) rfl rfl rfl (by kernel_rfl) (by kernel_rfl) (by kernel_rfl) (fun _ _ _ h => h) rfl (q_move rfl) ?_
          refine ah_take 11 (fun w9 hs => (hs.front (.s (.s (.z))))) rfl rfl rfl (by kernel_rfl) (by kernel_rfl) (by kernel_rfl) (fun _ _ _ h => h) rfl (q_indexAddrA (i := k.1) (o_r + k.1 * 2 + 0) hA_r rfl rfl rfl (by omega) Tryz.runUnderlying39 Tryz.sizeOf44 rfl) ?_
          refine ah_take 12 (fun w9 hs => (hs.front (.s (.s (.z))))) rfl rfl rfl (by kernel_rfl) (by kernel_rfl) (by kernel_rfl) (fun _ _ _ h => h) rfl (q_fieldAddr (o_r + k.1 * 2 + 1) rfl Tryz.runUnderlying44 rfl Tryz.sizeOf3 (by decide) rfl) ?_
          refine ah_take 13 (fun w9 hs => (hs.front (.s (.s (.z))))) rfl rfl rfl (by kernel_rfl) (by kernel_rfl) (by kernel_rfl) (fun _ _ _ h => h) rfl (q_loadX rfl Tryz.isAgg3 (fun w9 hs => (hs.cellOf (.tail _ (.head _)) (F_r _ _ hA_r) hlt_r (hget_r k.1 _ hx_r 1 _ rfl)))) ?_
          refine ah_one 14 rfl (by kernel_rfl) (fun hok1 hcl1 => ?_)
          refine al_call Tryz.call34 (.cons rfl (.cons rfl (.cons rfl .nil))) rfl rfl (fun w3 hs3 => ?_)
          refine (rwithin7_any (iA ws k.1) (roomN M S k.1).lo (roomN M S k.1).hi _).mono ?_
          rintro e u3 ⟨rfl, rfl⟩
          refine ⟨_, rfl, (Below.refl _ _), ?_⟩
          clear hs3
          refine al_end (ah_back hok1 hcl1 (fun w9 hs => ((hs.fewer 1 rfl).front (.s (.s (.z))))) ?_)
          refine ah_take 15 (fun w9 hs => ((hs.fewer 1 rfl).front (.s (.s (.z))))) rfl rfl rfl (by kernel_rfl) (by kernel_rfl) (by kernel_rfl) (fun _ _ _ h => h) rfl (q_not rfl) ?_
          refine ah_done (by kernel_rfl) ?_
          refine aq_then ?_
          refine ac_cond rfl (fun h3 => ?_) (fun h3 => ?_)
          · have hcb : cutB M S ws k.1 = true := by unfold cutB; simpa using h3
            have hct : cutT M S ws (k.1 + 1) = cutT M S ws k.1 ++ [(k.1 : Int)] := if_pos hcb
            refine ac_region ?_
            refine al_q (q_move rfl) rfl rfl rfl ?_
            refine al_q (q_move rfl) rfl rfl rfl ?_
            refine al_new (fun b => .slice (some ⟨b, 0, none⟩) 1 1) (r_buildSlice (.cons rfl .nil) (csd_bs_int_1_0_ _ rfl)) rfl rfl rfl ?_
            intro b3
            refine al_grow (z := 1) (bytes := 8) (zv := (.int .i64 0)) (o := k.2.1) (cs := k.2.2) (vs := [.int .i64 (k.1 : Int)]) rfl rfl (.s (.s (.s (.z)))) hgk (Sor.box (j := 0) rfl rfl rfl) Tryz.underlying30 (by kernel_rfl) rfl (by omega) (by decide) rfl rfl (fun o_1 g_1 => ?_)
            refine ⟨_, (.s (.s (.s (.z)))), ?_⟩
            refine al_q (q_assign rfl) rfl rfl rfl ?_
            refine al_end ?_
            refine aq_inN ?_
            refine aq_then ?_
            refine ac_region ?_
            refine al_q (q_move rfl) rfl rfl rfl ?_
            refine al_q (q_add rfl rfl (by omega)) rfl rfl rfl ?_
            refine al_q (q_assign rfl) rfl rfl rfl ?_
            refine al_end ?_
            refine aq_then ?_
            skip
            refine aq_round ((k.1 + 1, o_1, (k.2.2 ++ [.int .i64 (k.1 : Int)]))) (by simp only; omega) ⟨by simp only; omega, by simp only; rw [hct, List.length_append]; exact g_1, by simp only; rw [hct, hcs, List.map_append]; rfl⟩ ⟨rfl, rfl, rfl, rfl, (by simp only; rw [hct]; first | rfl | (rw [List.length_append]; rfl)), rfl, trivial⟩ (fun w9 hs => ((hs.fewer 1 rfl).tail 1 rfl))
          · have hcb : cutB M S ws k.1 = false := by unfold cutB; simpa using h3
            have hct : cutT M S ws (k.1 + 1) = cutT M S ws k.1 := if_neg (by rw [hcb]; decide)
            refine ac_skip ?_
            refine aq_inN ?_
            refine aq_then ?_
            refine aq_keepL [2, 6, 7, 8, 10, 11, 33, 34, 35, 36, 39, 40, 41, 42, 43, 44, 45, 46, 47, 48, 49, 50, 51, 52, 53, 54] (.cons rfl (.cons rfl (.cons rfl (.cons rfl (.cons rfl (.cons rfl (.cons rfl (.cons rfl (.cons rfl (.cons rfl (.cons rfl (.cons rfl (.cons rfl (.cons rfl (.cons rfl (.cons rfl (.cons rfl (.cons rfl (.cons rfl (.cons rfl (.cons rfl (.cons rfl (.cons rfl (.cons rfl (.cons rfl (.cons rfl .nil)))))))))))))))))))))))))) ?_
            refine ac_region ?_
            refine al_q (q_move rfl) rfl rfl rfl ?_
            refine al_q (q_add rfl rfl (by omega)) rfl rfl rfl ?_
            refine al_q (q_assign rfl) rfl rfl rfl ?_
            refine al_end ?_
            refine aq_then ?_
            skip
            refine aq_round ((k.1 + 1, k.2.1, k.2.2)) (by simp only; omega) ⟨by simp only; omega, by simp only; rw [hct]; exact hgk, by simp only; rw [hct]; exact hcs⟩ ⟨rfl, rfl, rfl, rfl, (by simp only; rw [hct]; first | rfl | (rw [List.length_append]; rfl)), rfl, trivial⟩ (fun w9 hs => (hs.fewer 1 rfl))
        · have hke : k.1 = M.coils.length := by have := of_decide_eq_false h2; omega
          refine ac_exit ?_
          refine aq_thenE ?_
          refine aq_thenE ?_
          refine aq_hit ?_
          refine aq_then ?_
          refine ac_seq ?_
          refine ac_region ?_
          refine al_q (q_move rfl) rfl rfl rfl ?_
          refine al_q (q_assign rfl) rfl rfl rfl ?_
          refine al_q (q_assign rfl) rfl rfl rfl ?_
          refine al_end ?_
          refine aq_then ?_
          refine ac_ret ?_
          refine ret2 Tryz.results12 rfl rfl (fun w9 hs => ?_)
          rw [hE, ← hke]; exact OutL.ok (hs.grown (enc := intCells) (o := k.2.1) (cs := k.2.2) (zs := cutT M S ws k.1) (fun _ => rfl) (fun y hy => by simp [hy]) hgk (by rw [hcs, flat_int]) rfl) (by omega) hs.below

end Go.Proofs.YtnikdbglpimadaaGreat
end
