import Derived.Test.YtapldonpflgnfaaGreatDoorLAS
import Derived.Test.YtapldonpflgnfaaGreatDoorLBA
import Derived.Test.YtapldonpflgnfaaGreatDoorLBD
import Derived.Test.YtapldonpflgnfaaGreatDoorLBG
import Derived.Test.YtapldonpflgnfaaGreatDoorLBH
import Derived.Test.YtapldonpflgnfaaGreatDoorLBJ
import Derived.Test.YtapldonpflgnfaaGreatDoorLBK
import Derived.Test.YtapldonpflgnfaaGreatDoorRows
import Derived.KernelRfl
import Derived.Laws.StructEq
namespace Go.Proofs.YtapldonpflgnfaaGreatDoor
set_option linter.unusedVariables false
set_option linter.unusedSimpArgs false
section
open Go.RowKit
theorem explB_iff {M : MachD} {C : CurD} {zs : List SpanD} : explB M C zs = true ↔ Fit2 M C ∧ zs.length = M.sensors.length ∧ ∀ s ∈ zs, vld s.lo s.hi = true := by
 unfold explB readsB
 rw [Bool.and_eq_true, Bool.and_eq_true, Bool.and_eq_true, fit2_iff, decide_eq_true_iff, decide_eq_true_iff, List.all_eq_true]
 exact ⟨fun h => ⟨h.1, h.2.2.1, h.2.2.2⟩, fun h => ⟨h.1, h.1.check, h.2.1, h.2.2⟩⟩
theorem RowL.box {b : Nat} {vs : List Value} {W : World} (h : RowL b vs W) : BoxAt W b (.cells vs) :=
 ⟨h.lt, fun cs hc k v hk => by cases hc; exact ⟨h.cell k v hk, h.mark k (List.getElem?_eq_some_iff.1 hk).1⟩, fun es k hc => by cases hc⟩
theorem own_row {b : Nat} {vs : List Value} {w w' : World} (h0 : w.heap.size ≤ b) (h : RowL b vs w') (hb : Below w.heap.size w w') : Own w [(b, .cells vs)] w' := (Sta.start 0 [] w).adopt hb h0 h.box
theorem bgL_bd (M : MachD) (C : CurD) : ∀ b ∈ bgL M C, -50000000000000000 ≤ b ∧ b ≤ 50000000000000000 := fun b hb => by
 unfold bgL at hb
 obtain ⟨k, _, rfl⟩ := List.mem_map.1 hb
 exact backL_bd M C k
def outR (ld n : Nat) (bs : List Nat) : List Value := bs.reverse.map (fun b => Value.slice (some ⟨b, 0, none⟩) ld ld) ++ List.replicate (n - bs.length) (.slice none 0 0)
def boxR (T : Nat → List Value) : List Nat → Boxes
 | [] => []
 | b :: r => (b, .cells (T r.length)) :: boxR T r
abbrev clC (ld b : Nat) : List Value := [.slice (some ⟨b, 0, none⟩) ld ld]
theorem outR_nil (ld n : Nat) : outR ld n [] = List.replicate n (.slice none 0 0) := by simp [outR]
theorem outR_set (ld n : Nat) (bs : List Nat) (b : Nat) (h : bs.length < n) : (outR ld n bs).set bs.length (.slice (some ⟨b, 0, none⟩) ld ld) = outR ld n (b :: bs) := by
 unfold outR
 rw [set_fill _ bs.length n _ _ (by simp) h]
 simp [List.reverse_cons, List.map_append]
theorem outR_len (ld n : Nat) (bs : List Nat) (h : bs.length ≤ n) : (outR ld n bs).length = n := by simp [outR]; omega
theorem flat_clC (ld : Nat) : ∀ l : List Nat, l.flatMap (clC ld) = l.map fun b => Value.slice (some ⟨b, 0, none⟩) ld ld
 | [] => rfl
 | b :: r => by rw [List.flatMap_cons, flat_clC ld r]; rfl
theorem boxR_mem (T : Nat → List Value) : ∀ (bs : List Nat) (i b : Nat), bs.reverse[i]? = some b → (b, Cont.cells (T i)) ∈ boxR T bs
 | [], i, b, h => by simp at h
 | a :: r, i, b, h => by
  rw [List.reverse_cons] at h
  rcases Nat.lt_or_ge i r.reverse.length with g1 | g1
  ·rw [List.getElem?_append_left g1] at h
   exact List.mem_cons_of_mem _ (boxR_mem T r i b h)
  ·rw [List.getElem?_append_right g1] at h
   rw [List.length_reverse] at g1 h
   have hi : i - r.length = 0 := by
    have := (List.getElem?_eq_some_iff.1 h).1
    simp only [List.length_cons, List.length_nil] at this; omega
   rw [hi] at h
   obtain rfl : a = b := by simpa using h
   have : i = r.length := by omega
   rw [this]; exact List.mem_cons_self
theorem perm5 {x a b c d : Nat × Cont} {G : Boxes} : (x :: a :: b :: c :: d :: G).Perm (a :: b :: c :: d :: x :: G) := (List.Perm.swap a x _).trans (List.Perm.cons a ((List.Perm.swap b x _).trans (List.Perm.cons b ((List.Perm.swap c x _).trans (List.Perm.cons c (List.Perm.swap d x G))))))
theorem Sta.rowR {α : Type} {z ld N : Nat} {D : List Deferred} {w0 w : World} {U : Snaps} {L : Boxes} {enc : α → List Value} {F : Nat → List α} {bs : List Nat} (hz : ∀ x, (enc x).length = z) (hk : ld ≤ 9223372036854775807) (hF : ∀ k, (F k).length = ld) (h : Sta ⟨N, D, w0, []⟩ U L w) (hG : ∀ x ∈ boxR (fun k => (F k).flatMap enc) bs, x ∈ L) : ∀ (k b : Nat), bs.reverse[k]? = some b → NewT z enc w0.heap.size w (some ⟨b, 0, none⟩) ld ld (F k) := by
 intro k b hb
 obtain ⟨j, hj⟩ := List.getElem?_of_mem (hG _ (boxR_mem (fun k => (F k).flatMap enc) bs k b hb))
 exact ⟨isT_box0 hz (h.at j hj) rfl (hF k), h.new j hj, Nat.le_refl _, hk⟩
def candU (M : MachD) (C : CurD) (zs : List SpanD) (k : Nat) : List (Int × Int × Int) := (List.range k).filterMap (candF M C zs)
theorem candU_len (M : MachD) (C : CurD) (zs : List SpanD) : ∀ k : Nat, (candU M C zs k).length ≤ k
 | 0 => by simp [candU]
 | k + 1 => by
  have := candU_len M C zs k
  unfold candU at this ⊢
  rw [filter_snoc, List.length_append]
  cases candF M C zs k <;> simp <;> omega
theorem candU_yes {M : MachD} {C : CurD} {zs : List SpanD} {k : Nat} (h : (commL (clL M (bgL M C) zs (k : Int))).2.2 = true) : candU M C zs (k + 1) = candU M C zs k ++ [((k : Int), (commL (clL M (bgL M C) zs (k : Int))).1, (commL (clL M (bgL M C) zs (k : Int))).2.1)] := by
 unfold candU; rw [filter_snoc, show candF M C zs k = some _ from by unfold candF; rw [if_pos h]]
theorem candU_no {M : MachD} {C : CurD} {zs : List SpanD} {k : Nat} (h : (commL (clL M (bgL M C) zs (k : Int))).2.2 = false) : candU M C zs (k + 1) = candU M C zs k := by
 unfold candU; rw [filter_snoc, show candF M C zs k = none from by unfold candF; rw [if_neg (by rw [h]; decide)]]; simp
set_option maxRecDepth 100000 in
theorem claims9_any (R : MachR) (M : MachD) (Q : CurR) (C : CurD) (F : Option Addr) (nf cf : Nat) (zs : List SpanD) (w : World) (hM : IsM w R M) (hC : IsC w Q C) (hF : IsT 2 SpanD.cells w F nf zs) (hn : nf ≤ 1000000000000000) (he : explB M C zs = true) : Calls Tryz.prog 43 #[(.agg (machCells R M)), Q.v, (.slice F nf cf)] w (fun e w' => ∃ p L, e = .returned (.slice (some ⟨p, 0, none⟩) Q.lc Q.lc) ∧ NewT 1 (clC R.ld) w.heap.size w' (some ⟨p, 0, none⟩) Q.lc Q.lc L ∧ (∀ (k b : Nat), L[k]? = some b → NewT 2 SpanD.cells w.heap.size w' (some ⟨b, 0, none⟩) R.ld R.ld (clL M (bgL M C) zs (k : Int))) ∧ Below w.heap.size w w') := by
 have hexp := explB_iff.1 he
 obtain ⟨hv, hzl, hzs⟩ := hexp
 have hvc := fit2_iff.2 hv
 have hs0 := sound_of hv.check
 have hg := cells_fine hs0.grid
 have hsn := hs0.sensors.1
 have hld := hM.sensors.1
 have hnz := hF.1
 have hcp := hv.plasma.1
 have qc := hC.plasma.1
 have hkc := hC.kc
 refine calls_ax (vs := [(.agg (machCells R M)), Q.v, (.slice F nf cf)]) Tryz.func43 rfl rfl ?_
 refine ac_seq (ac_region ?_)
 refine al_new (fun b => .pointer (some ⟨b, 0, none⟩)) (r_box rfl rfl) rfl rfl rfl ?_
 intro b1
 refine al_new (fun b => .pointer (some ⟨b, 0, none⟩)) (r_box rfl rfl) rfl rfl rfl ?_
 intro b2
 refine al_p (q_assign rfl) (al_end (aq_then ?_))
 refine ac_seq (ac_region ?_)
 refine al_p (q_loadAll (i := 1) rfl rfl Tryz.isAgg29 Tryz.sizeOf29 rfl) (al_p (q_loadAll (i := 0) rfl rfl Tryz.isAgg32 Tryz.sizeOf32 rfl) (al_callS Tryz.call40 (.cons rfl (.cons rfl .nil)) rfl rfl (fun w1 hs1 => ?_)))
 refine (backgrounds_any R M Q C _ (hM.below hs1.below) (hC.below hs1.below) (by omega)).mono ?_
 rintro e u1 ⟨bg, rfl, G1, G2, hb_1⟩
 refine ⟨_, _, _, rfl, hs1.gift (own_row G1 G2 hb_1), ?_⟩
 refine al_p (q_assign rfl) (al_end (aq_then ?_))
 refine ac_seq (ac_region ?_)
 refine al_p (q_fieldAddr 2 rfl Tryz.runUnderlying32 rfl Tryz.sizeOf30 (by decide) rfl) (al_p (q_load (i := 1) rfl rfl rfl Tryz.isAgg30) (al_p (q_lenS rfl Tryz.runUnderlying30) ?_))
 refine al_makeInts (n := Q.lc) (z := (.slice none 0 0)) (bytes := 24) rfl rfl rfl Tryz.underlying103 (by kernel_rfl) rfl (by omega) (by decide) rfl rfl ?_
 intro b3
 refine al_p (q_assign rfl) (al_end (aq_then ?_))
 refine ac_seq (ac_seq (ac_region ?_))
 refine al_p (q_move rfl) (al_p (q_lenS rfl Tryz.runUnderlying103) (al_p (q_move rfl) (al_end (aq_then ?_))))
 refine ac_block ?_
 refine ac_loop (β := List Nat) (fun x => x.length ≤ Q.lc) (fun x => [(2, (.slice F nf cf)), (3, (.pointer (some ⟨b1, 0, none⟩))), (6, (.slice none 0 0)), (7, (.slice (some ⟨bg, 0, none⟩) R.ld R.ld)), (8, (.slice (some ⟨b3, 0, none⟩) (Q.lc) (Q.lc))), (18, (.int .i64 ((Q.lc) : Int))), (19, (.int .i64 (x.length : Int)))]) (fun _ => _) (fun x => (b3, .cells (outR R.ld Q.lc x)) :: (bg, _) :: (b2, _) :: (b1, _) :: (boxR (fun k => (clL M (bgL M C) zs (k : Int)).flatMap SpanD.cells) x)) (fun x => Q.lc - x.length) [] (by simp) ⟨rfl, rfl, rfl, rfl, rfl, rfl, rfl, trivial⟩ (fun w9 hs => (by rw [outR_nil]; exact hs)) (fun x hF1 => ?_)
 refine ac_seq (ac_region ?_)
 refine al_p (q_lss rfl rfl) (al_end (aq_then ?_))
 refine ac_seq ?_
 refine ac_cond rfl (fun h1 => ?_) (fun h1 => ?_)
 ·have hxl : x.length < Q.lc := by have := of_decide_eq_true h1; omega
  refine ac_skip (aq_then (ac_seq (ac_block (ac_seq (ac_region ?_)))))
  refine al_p (q_move rfl) (al_p (q_assign rfl) (al_end (aq_then ?_)))
  refine ac_region (al_p (q_move rfl) (al_p (q_move rfl) (al_p (q_loadAll (i := 3) rfl rfl Tryz.isAgg29 Tryz.sizeOf29 rfl) (al_p (q_move rfl) ?_))))
  refine al_p (q_move rfl) (al_p (q_move rfl) (al_callS Tryz.call39 (.cons rfl (.cons rfl (.cons rfl (.cons rfl .nil)))) rfl rfl (fun w2 hs2 => ?_)))
  have hbg : IsT 1 intCells w2 (some ⟨bg, 0, none⟩) R.ld (bgL M C) := isT_box0 (n := 1) (enc := intCells) (fun _ => rfl) (hs2.at 1 rfl) (flat_int _) (by rw [bgL_len, hld])
  refine (claimsIn_any R M (some ⟨bg, 0, none⟩) F R.ld R.ld nf cf (bgL M C) zs (x.length : Int) _ (hM.below hs2.below) hbg (hF.below hs2.below) hv.check (wthn_iff.2 ⟨by omega, by omega⟩) rfl (by omega) (bgL_bd M C) hzs).mono ?_
  rintro e u2 ⟨bc, rfl, G3, G4, hb_2⟩
  refine ⟨_, _, _, rfl, hs2.gift (own_row G3 G4 hb_2), ?_⟩
  refine al_p (q_indexAddr (i := x.length) (x.length) rfl rfl rfl hxl Tryz.runUnderlying103 Tryz.sizeOf98 (by omega)) ?_
  refine al_store1 (i := 1) rfl rfl rfl rfl Tryz.sizeOf98 (SetAt.ofSet (by rw [outR_len R.ld Q.lc x (by omega)]; exact hxl)) .k1 rfl (al_end (aq_inN (aq_then (ac_region ?_))))
  refine al_p (q_add rfl rfl (by omega)) (al_p (q_move rfl) (al_end (aq_then ?_)))
  skip
  refine aq_round ((bc :: x)) (by simp only [List.length_cons]; omega) (by simp only [List.length_cons]; omega) ⟨rfl, rfl, rfl, rfl, rfl, rfl, rfl, trivial⟩ (fun w9 hs => (by have h9 := hs; rw [outR_set R.ld Q.lc x bc hxl] at h9; exact h9.perm perm5))
 ·have hxe : x.length = Q.lc := by have := of_decide_eq_false h1; omega
  refine ac_exit (aq_thenE (aq_thenE (aq_hit (aq_then ?_))))
  refine ac_seq (ac_region ?_)
  refine al_p (q_move rfl) (al_p (q_assign rfl) (al_end (aq_then ?_)))
  refine ac_ret (ret1 Tryz.results43 rfl (fun w9 hs => ?_))
  exact ⟨b3, x.reverse, rfl, ⟨isT_box (n := 1) (enc := clC R.ld) (fun _ => rfl) (hs.at 0 rfl) (flat_clC R.ld x.reverse) (by simp [hxe]), hs.new 0 rfl, Nat.le_refl _, by omega⟩, fun k b hb => hs.rowR (z := 2) (enc := SpanD.cells) (F := fun k => clL M (bgL M C) zs (k : Int)) (bs := x) (fun _ => rfl) (by omega) (fun k => by rw [clL_len, hld]) (fun y hy => by simp [hy]) k b hb, hs.below⟩
theorem isT_lt {α : Type} {z n b o : Nat} {enc : α → List Value} {w : World} {zs : List α} (h : IsT z enc w (some ⟨b, o, none⟩) n zs) (h0 : 0 < n) : b < w.heap.size := by
 obtain ⟨b', o', e, h1, _⟩ := h.2 h0
 cases e; exact h1
theorem isT_cell {n b k x : Nat} {ld : Nat} {w : World} {zs : List Nat} (h : IsT 1 (clC ld) w (some ⟨b, 0, none⟩) n zs) (hx : zs[k]? = some x) : w.cell? ⟨b, 0 + k * 1 + 0, none⟩ = some (.slice (some ⟨x, 0, none⟩) ld ld) := by
 obtain ⟨b', o', e, _, h2⟩ := h.2 (by have := (List.getElem?_eq_some_iff.1 hx).1; have := h.1; omega)
 cases e; exact h2 k x hx 0 _ rfl
theorem sxc_bl_apiCandidate_0_1 (a0 c1_0 c1_1 : Value) (ha0 : a0.oneCell' = true) : ∀ w, (Instr.build 73 #[(0, a0), (1, .agg #[c1_0, c1_1])]).run Tryz.prog w = .ok (.agg #[a0, c1_0, c1_1]) w := by
 have ea0 : a0.cells = #[a0] := cells_one ha0
 intro w; simp [Instr.build, Instr.fill, cells_agg, Tryz.runUnderlying73, Tryz.zeroValue73, Tryz.sizeOf3, Tryz.sizeOf41, ea0]
theorem sxc_bs_apiCandidate_1_0_ (c0_0 c0_1 c0_2 : Value) : ∀ w, (Instr.buildSlice 49 1 #[(0, .agg #[c0_0, c0_1, c0_2])]).run Tryz.prog w = .ok (.slice (some ⟨w.heap.size, 0, none⟩) 1 1) (w.alloc (.cells [c0_0, c0_1, c0_2].toArray 73)) := by
 intro w; (simp [Instr.buildSlice, Instr.fill, cells_agg, newRow, Tryz.runUnderlying49, Tryz.zeroValue73, Tryz.sizeOf73] <;> (rw [(by kernel_rfl : Array.range 3 = #[0, 1, 2])]; simp [Value.cells]))
set_option maxRecDepth 100000 in
theorem ccand9_any (R : MachR) (M : MachD) (Q : CurR) (C : CurD) (F : Option Addr) (nf cf : Nat) (zs : List SpanD) (w : World) (hM : IsM w R M) (hC : IsC w Q C) (hF : IsT 2 SpanD.cells w F nf zs) (hn : nf ≤ 1000000000000000) : Calls Tryz.prog 15 #[(.agg (machCells R M)), Q.v, (.slice F nf cf)] w (OutT 3 pairCells w (candE M C zs) (candZ M C zs)) := by
 refine calls_ax (vs := [(.agg (machCells R M)), Q.v, (.slice F nf cf)]) Tryz.func15 rfl rfl ?_
 refine ac_seq (ac_region ?_)
 refine al_new (fun b => .pointer (some ⟨b, 0, none⟩)) (r_box rfl rfl) rfl rfl rfl ?_
 intro b1
 refine al_new (fun b => .pointer (some ⟨b, 0, none⟩)) (r_box rfl rfl) rfl rfl rfl ?_
 intro b2
 refine al_p (q_assign rfl) (al_p (q_assign rfl) (al_end (aq_then ?_)))
 refine ac_seq (ac_seq (ac_region ?_))
 refine al_p (q_loadAll (i := 1) rfl rfl Tryz.isAgg29 Tryz.sizeOf29 rfl) (al_p (q_loadAll (i := 0) rfl rfl Tryz.isAgg32 Tryz.sizeOf32 rfl) (al_p (q_move rfl) (al_call Tryz.call27 (.cons rfl (.cons rfl (.cons rfl .nil))) rfl rfl (fun w1 hs1 => ?_))))
 refine (explainable_any R M Q C F nf cf zs _ (hM.below hs1.below) (hC.below hs1.below) (hF.below hs1.below) hn).mono ?_
 rintro e u1 ⟨rfl, hb_1⟩
 refine ⟨_, rfl, hb_1, ?_⟩
 clear hs1
 refine al_p (q_not rfl) (al_end (aq_then ?_))
 refine ac_cond rfl (fun h1 => ?_) (fun h1 => ?_)
 ·have hE : explB M C zs = false := by simpa using h1
  refine ac_seq (ac_region ?_)
  refine al_p (q_assign rfl) (al_p (q_assign rfl) (al_end (aq_then ?_)))
  refine ac_ret (aq_thenR (ret2 Tryz.results15 rfl rfl (fun w9 hs => ?_)))
  unfold candE candZ; rw [if_neg (by rw [hE]; decide), if_neg (by rw [hE]; decide)]; exact OutT.nil hs.below
 ·have he : explB M C zs = true := by simpa using h1
  have hexp := explB_iff.1 he
  obtain ⟨hv, hzl, hzs⟩ := hexp
  have hvc := fit2_iff.2 hv
  have hs0 := sound_of hv.check
  have hg := cells_fine hs0.grid
  have hsn := hs0.sensors.1
  have hld := hM.sensors.1
  have hnz := hF.1
  have hcp := hv.plasma.1
  have qc := hC.plasma.1
  have hkc := hC.kc
  refine ac_skip (aq_then (ac_seq (ac_region ?_)))
  refine al_p (q_assign rfl) (al_end (aq_then ?_))
  refine ac_seq (ac_seq (ac_region ?_))
  refine al_p (q_loadAll (i := 1) rfl rfl Tryz.isAgg29 Tryz.sizeOf29 rfl) (al_p (q_loadAll (i := 0) rfl rfl Tryz.isAgg32 Tryz.sizeOf32 rfl) (al_p (q_move rfl) (al_call Tryz.call43 (.cons rfl (.cons rfl (.cons rfl .nil))) rfl rfl (fun w2 hs2 => ?_))))
  refine (claims9_any R M Q C F nf cf zs _ (hM.below hs2.below) (hC.below hs2.below) (hF.below hs2.below) hn he).mono ?_
  rintro e u2 ⟨p_c, L_c, rfl, N_c, K_c, hb_2⟩
  refine ⟨_, rfl, hb_2, ?_⟩
  clear hs2
  refine al_p (q_lenS rfl Tryz.runUnderlying103) (al_p (q_move rfl) (al_end (aq_then ?_)))
  refine ac_block ?_
  refine ac_loop (β := Nat × Gr × List Value) (fun k => k.1 ≤ Q.lc ∧ gok k.2.1 (candU M C zs k.1).length 3 k.2.2 ∧ k.2.2 = (candU M C zs k.1).flatMap pairCells) (fun k => [(6, (.slice none 0 0)), (7, (.int .i64 0)), (8, (.slice (gA k.2.1) (candU M C zs k.1).length (gC k.2.1))), (21, (.slice (some ⟨p_c, 0, none⟩) Q.lc Q.lc)), (22, (.int .i64 (Q.lc : Int))), (23, (.int .i64 (k.1 : Int)))]) (fun _ => _) (fun k => (b2, _) :: (b1, _) :: (gt k.2.1 k.2.2 ++ ([]))) (fun k => Q.lc - k.1) (0, none, []) ⟨by simp, gok.none 3, rfl⟩ ⟨rfl, rfl, rfl, rfl, rfl, rfl, trivial⟩ (fun w9 hs => (by rw [show gt none [] = [] from rfl, List.nil_append]; exact hs)) (fun k hF1 => ?_)
  obtain ⟨hla, hgk, hcs⟩ := hF1
  have htl := candU_len M C zs k.1
  refine ac_seq (ac_region ?_)
  refine al_p (q_lss rfl rfl) (al_end (aq_then ?_))
  refine ac_seq ?_
  refine ac_cond rfl (fun h2 => ?_) (fun h2 => ?_)
  ·have hkl : k.1 < Q.lc := by have := of_decide_eq_true h2; omega
   obtain ⟨b9, hb9⟩ : ∃ b9, L_c[k.1]? = some b9 := ⟨_, List.getElem?_eq_getElem (by rw [N_c.isT.1]; exact hkl)⟩
   refine ac_skip (aq_then (ac_seq (ac_block (ac_seq (ac_region ?_)))))
   refine al_p (q_move rfl) ?_
   refine al_p (q_indexAddrA (i := k.1) (0 + k.1 * 1 + 0) rfl rfl rfl rfl (by omega) Tryz.runUnderlying103 Tryz.sizeOf98 rfl) ?_
   refine al_p (q_loadX rfl Tryz.isAgg98 (fun w9 hs => (hs.cellOf (.head _) (N_c.new _ _ rfl) (isT_lt N_c.isT (by omega)) (isT_cell N_c.isT hb9)))) (al_p (q_assign rfl) (al_p (q_assign rfl) (al_end (aq_then ?_))))
   refine ac_seq (ac_region ?_)
   refine al_p (q_move rfl) (al_call Tryz.call44 (.cons rfl .nil) rfl rfl (fun w3 hs3 => ?_))
   refine (common_any (some ⟨b9, 0, none⟩) R.ld R.ld (clL M (bgL M C) zs (k.1 : Int)) _ (hs3.isT (.head _) (K_c k.1 b9 hb9).isT (fun b o e => Or.inl ((K_c k.1 b9 hb9).new b o e))) (by omega)).mono ?_
   rintro e u3 ⟨rfl, hb_3⟩
   refine ⟨_, rfl, hb_3, ?_⟩
   clear hs3
   refine al_p (q_move rfl) (al_p (q_extract rfl rfl) (al_p (q_extract rfl rfl) (al_new (fun b => .pointer (some ⟨b, 0, none⟩)) (r_alloc Tryz.zeroValue41 rfl) rfl rfl rfl ?_)))
   intro b3
   refine al_storeAll (i := 0) rfl rfl rfl rfl Tryz.sizeOf41 rfl rfl .k0 rfl (al_p (q_assign rfl) (al_end (aq_then ?_)))
   refine ac_seq (ac_region ?_)
   refine al_p (q_move rfl) (al_end (aq_then ?_))
   refine ac_cond rfl (fun h3 => ?_) (fun h3 => ?_)
   ·have hct := candU_yes (M := M) (C := C) (zs := zs) (k := k.1) h3
    refine ac_region (al_p (q_move rfl) (al_p (q_move rfl) (al_p (q_loadAll (i := 0) rfl rfl Tryz.isAgg41 Tryz.sizeOf41 rfl) (al_p (q_build (.cons rfl (.cons rfl .nil)) (sxc_bl_apiCandidate_0_1 _ _ _ rfl)) ?_))))
    refine al_new (fun b => .slice (some ⟨b, 0, none⟩) 1 1) (r_buildSlice (.cons rfl .nil) (sxc_bs_apiCandidate_1_0_ _ _ _)) rfl rfl rfl ?_
    intro b4
    refine al_grow (z := 3) (bytes := 24) (zv := (.agg #[.int .i64 0, .int .i64 0, .int .i64 0])) (o := k.2.1) (cs := k.2.2) (vs := [.int .i64 (k.1 : Int), .int .i64 (commL (clL M (bgL M C) zs (k.1 : Int))).1, .int .i64 (commL (clL M (bgL M C) zs (k.1 : Int))).2.1]) rfl rfl (.s (.s (.s (.s (.z))))) hgk (Sor.box (j := 0) rfl rfl rfl) Tryz.underlying49 (by kernel_rfl) rfl (by omega) (by decide) rfl rfl (fun o_1 g_1 => ?_)
    refine ⟨_, (.s (.s (.s (.s (.z))))), ?_⟩
    refine al_p (q_assign rfl) (al_end (aq_inN (aq_then (ac_region ?_))))
    refine al_p (q_add rfl rfl (by omega)) (al_p (q_move rfl) (al_end (aq_then ?_)))
    skip
    refine aq_round ((k.1 + 1, o_1, (k.2.2 ++ [.int .i64 (k.1 : Int), .int .i64 (commL (clL M (bgL M C) zs (k.1 : Int))).1, .int .i64 (commL (clL M (bgL M C) zs (k.1 : Int))).2.1]))) (by simp only; omega) ⟨by simp only; omega, by simp only; rw [hct, List.length_append]; exact g_1, by simp only; rw [hct, hcs, List.flatMap_append]; rfl⟩ ⟨rfl, rfl, (by simp only; rw [hct]; first | rfl | (rw [List.length_append]; rfl)), rfl, rfl, rfl, trivial⟩ (fun w9 hs => ((hs.fewer 1 rfl).tail 2 rfl))
   ·have hct := candU_no (M := M) (C := C) (zs := zs) (k := k.1) h3
    refine ac_skip (aq_inN (aq_then (ac_region ?_)))
    refine al_p (q_add rfl rfl (by omega)) (al_p (q_move rfl) (al_end (aq_then ?_)))
    skip
    refine aq_round ((k.1 + 1, k.2.1, k.2.2)) (by simp only; omega) ⟨by simp only; omega, by simp only; rw [hct]; exact hgk, by simp only; rw [hct]; exact hcs⟩ ⟨rfl, rfl, (by simp only; rw [hct]; first | rfl | (rw [List.length_append]; rfl)), rfl, rfl, rfl, trivial⟩ (fun w9 hs => ((hs.fewer 1 rfl).tail 1 rfl))
  ·have hke : k.1 = Q.lc := by have := of_decide_eq_false h2; omega
   refine ac_exit (aq_thenE (aq_thenE (aq_hit (aq_then ?_))))
   refine ac_seq (ac_region ?_)
   refine al_p (q_move rfl) (al_p (q_assign rfl) (al_p (q_assign rfl) (al_end (aq_then ?_))))
   refine ac_ret (ret2 Tryz.results15 rfl rfl (fun w9 hs => ?_))
   have hL : candZ M C zs = candU M C zs k.1 := by unfold candZ candL candU; rw [if_pos he, hke, qc]
   unfold candE; rw [if_pos he, hL]; exact OutT.ok (hs.grown (enc := pairCells) (o := k.2.1) (cs := k.2.2) (zs := candU M C zs k.1) (fun _ => rfl) (fun y hy => by simp [hy]) hgk hcs.symm rfl) hs.below
end
end Go.Proofs.YtapldonpflgnfaaGreatDoor
