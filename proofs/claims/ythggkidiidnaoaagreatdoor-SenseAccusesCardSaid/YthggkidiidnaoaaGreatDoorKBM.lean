import Derived.Test.YthggkidiidnaoaaGreatDoorKAA
import Derived.Test.YthggkidiidnaoaaGreatDoorKAL
import Derived.Test.YthggkidiidnaoaaGreatDoorKAR
import Derived.Test.YthggkidiidnaoaaGreatDoorKAX
import Derived.Test.YthggkidiidnaoaaGreatDoorKBA
import Derived.Test.YthggkidiidnaoaaGreatDoorKBD
import Derived.Test.YthggkidiidnaoaaGreatDoorKBF
import Derived.Test.YthggkidiidnaoaaGreatDoorKBH
import Derived.Test.YthggkidiidnaoaaGreatDoorKBL
import Derived.Test.YthggkidiidnaoaaGreatDoorRows
import Derived.KernelRfl
import Derived.Laws.StructEq
import Derived.OwnWalkIn
import Derived.TacticsInMore
import Derived.LoopIn
import Derived.ProofKit
import Derived.OpenShut
import Derived.Lib.SmallJoins
namespace Go.Proofs.YthggkidiidnaoaaGreatDoor
set_option linter.unusedVariables false
set_option linter.unusedSimpArgs false
section
open Go.RowKit
theorem explB_iff {M : MachD} {C : CurD} {zs : List SpanD} : explB M C zs = true ↔ Fit2 M C ∧ zs.length = M.sensors.length ∧ ∀ s ∈ zs, vld s.lo s.hi = true := by
 unfold explB readsB
 rw [Bool.and_eq_true, Bool.and_eq_true, Bool.and_eq_true, fit2_iff, decide_eq_true_iff, decide_eq_true_iff, List.all_eq_true]
 exact ⟨fun h => ⟨h.1, h.2.2.1, h.2.2.2⟩, fun h => ⟨h.1, h.1.check, h.2.1, h.2.2⟩⟩
theorem RowL.box {b : Nat} {vs : List Value} {W : World} (h : RowL b vs W) : BoxAt W b (.cells vs) :=
 ⟨h.lt, fun cs hc k v hk => by cases hc; exact ⟨h.cell k v hk, h.mark k (List.getElem?_eq_some_iff.1 hk).1⟩, fun es k hc => by cases hc⟩
theorem own_row {b : Nat} {vs : List Value} {w w' : World} (h0 : w.heap.size ≤ b) (h : RowL b vs w') (hb : Below w.heap.size w w') : Own w [(b, .cells vs)] w' := (Sta.start 0 [] w).adopt hb h0 h.box
theorem bgL_bd (M : MachD) (C : CurD) : ∀ b ∈ bgL M C, -50000000000000000 ≤ b ∧ b ≤ 50000000000000000 := fun b hb => by
 unfold bgL at hb
 obtain ⟨k, _, rfl⟩ := List.mem_map.1 hb
 exact backL_bd M C k
def outR (ld n : Nat) (bs : List Nat) : List Value := bs.reverse.map (fun b => Value.slice (some ⟨b, 0, none⟩) ld ld) ++ List.replicate (n - bs.length) (.slice none 0 0)
def boxR (T : Nat → List Value) : List Nat → Boxes
 | [] => []
 | b :: r => (b, .cells (T r.length)) :: boxR T r
abbrev clC (ld b : Nat) : List Value := [.slice (some ⟨b, 0, none⟩) ld ld]
theorem outR_nil (ld n : Nat) : outR ld n [] = List.replicate n (.slice none 0 0) := by simp [outR]
theorem outR_set (ld n : Nat) (bs : List Nat) (b : Nat) (h : bs.length < n) : (outR ld n bs).set bs.length (.slice (some ⟨b, 0, none⟩) ld ld) = outR ld n (b :: bs) := by
 unfold outR
 rw [set_fill _ bs.length n _ _ (by simp) h]
 simp [List.reverse_cons, List.map_append]
theorem outR_len (ld n : Nat) (bs : List Nat) (h : bs.length ≤ n) : (outR ld n bs).length = n := by simp [outR]; omega
theorem flat_clC (ld : Nat) : ∀ l : List Nat, l.flatMap (clC ld) = l.map fun b => Value.slice (some ⟨b, 0, none⟩) ld ld
 | [] => rfl
 | b :: r => by rw [List.flatMap_cons, flat_clC ld r]; rfl
theorem boxR_mem (T : Nat → List Value) : ∀ (bs : List Nat) (i b : Nat), bs.reverse[i]? = some b → (b, Cont.cells (T i)) ∈ boxR T bs
 | [], i, b, h => by simp at h
 | a :: r, i, b, h => by
  rw [List.reverse_cons] at h
  rcases Nat.lt_or_ge i r.reverse.length with g1 | g1
  ·rw [List.getElem?_append_left g1] at h
   exact List.mem_cons_of_mem _ (boxR_mem T r i b h)
  ·rw [List.getElem?_append_right g1] at h
   rw [List.length_reverse] at g1 h
   have hi : i - r.length = 0 := by
    have := (List.getElem?_eq_some_iff.1 h).1
    simp only [List.length_cons, List.length_nil] at this; omega
   rw [hi] at h
   obtain rfl : a = b := by simpa using h
   have : i = r.length := by omega
   rw [this]; exact List.mem_cons_self
theorem perm5 {x a b c d : Nat × Cont} {G : Boxes} : (x :: a :: b :: c :: d :: G).Perm (a :: b :: c :: d :: x :: G) := (List.Perm.swap a x _).trans (List.Perm.cons a ((List.Perm.swap b x _).trans (List.Perm.cons b ((List.Perm.swap c x _).trans (List.Perm.cons c (List.Perm.swap d x G))))))
theorem Sta.rowR {α : Type} {z ld N : Nat} {D : List Deferred} {w0 w : World} {U : Snaps} {L : Boxes} {enc : α → List Value} {F : Nat → List α} {bs : List Nat} (hz : ∀ x, (enc x).length = z) (hk : ld ≤ 9223372036854775807) (hF : ∀ k, (F k).length = ld) (h : Sta ⟨N, D, w0, []⟩ U L w) (hG : ∀ x ∈ boxR (fun k => (F k).flatMap enc) bs, x ∈ L) : ∀ (k b : Nat), bs.reverse[k]? = some b → NewT z enc w0.heap.size w (some ⟨b, 0, none⟩) ld ld (F k) := by
 intro k b hb
 obtain ⟨j, hj⟩ := List.getElem?_of_mem (hG _ (boxR_mem (fun k => (F k).flatMap enc) bs k b hb))
 exact ⟨isT_box0 hz (h.at j hj) rfl (hF k), h.new j hj, Nat.le_refl _, hk⟩
set_option maxRecDepth 100000 in
theorem claims9_any (R : MachR) (M : MachD) (Q : CurR) (C : CurD) (F : Option Addr) (nf cf : Nat) (zs : List SpanD) (w : World) (hM : IsM w R M) (hC : IsC w Q C) (hF : IsT 2 SpanD.cells w F nf zs) (hn : nf ≤ 1000000000000000) (he : explB M C zs = true) : Calls Tryz.prog 20 #[(.agg (machCells R M)), Q.v, (.slice F nf cf)] w (fun e w' => ∃ p L, e = .returned (.slice (some ⟨p, 0, none⟩) Q.lc Q.lc) ∧ NewT 1 (clC R.ld) w.heap.size w' (some ⟨p, 0, none⟩) Q.lc Q.lc L ∧ (∀ (k b : Nat), L[k]? = some b → NewT 2 SpanD.cells w.heap.size w' (some ⟨b, 0, none⟩) R.ld R.ld (clL M (bgL M C) zs (k : Int))) ∧ Below w.heap.size w w') := by
 have hexp := explB_iff.1 he
 obtain ⟨hv, hzl, hzs⟩ := hexp
 have hvc := fit2_iff.2 hv
 have hs0 := sound_of hv.check
 have hg := cells_fine hs0.grid
 have hsn := hs0.sensors.1
 have hld := hM.sensors.1
 have hnz := hF.1
 have hcp := hv.plasma.1
 have qc := hC.plasma.1
 have hkc := hC.kc
 refine calls_ax (vs := [(.agg (machCells R M)), Q.v, (.slice F nf cf)]) Tryz.func20 rfl rfl ?_
 refine ac_seq (ac_region ?_)
 refine al_new (fun b => .pointer (some ⟨b, 0, none⟩)) (r_box rfl rfl) rfl rfl rfl ?_
 intro b1
 refine al_new (fun b => .pointer (some ⟨b, 0, none⟩)) (r_box rfl rfl) rfl rfl rfl ?_
 intro b2
 refine al_p (q_assign rfl) (al_end (aq_then ?_))
 refine ac_seq (ac_region ?_)
 refine al_p (q_loadAll (i := 1) rfl rfl Tryz.isAgg29 Tryz.sizeOf29 rfl) (al_p (q_loadAll (i := 0) rfl rfl Tryz.isAgg32 Tryz.sizeOf32 rfl) (al_callS Tryz.call35 (.cons rfl (.cons rfl .nil)) rfl rfl (fun w1 hs1 => ?_)))
 refine (backgrounds9_any R M Q C _ (hM.below hs1.below) (hC.below hs1.below) (by omega)).mono ?_
 rintro e u1 ⟨bg, rfl, G1, G2, hb_1⟩
 refine ⟨_, _, _, rfl, hs1.gift (own_row G1 G2 hb_1), ?_⟩
 refine al_p (q_assign rfl) (al_end (aq_then ?_))
 refine ac_seq (ac_region ?_)
 refine al_p (q_fieldAddr 2 rfl Tryz.runUnderlying32 rfl Tryz.sizeOf30 (by decide) rfl) (al_p (q_load (i := 1) rfl rfl rfl Tryz.isAgg30) (al_p (q_lenS rfl Tryz.runUnderlying30) ?_))
 refine al_makeInts (n := Q.lc) (z := (.slice none 0 0)) (bytes := 24) rfl rfl rfl Tryz.underlying79 (by kernel_rfl) rfl (by omega) (by decide) rfl rfl ?_
 intro b3
 refine al_p (q_assign rfl) (al_end (aq_then ?_))
 refine ac_seq (ac_seq (ac_region ?_))
 refine al_p (q_move rfl) (al_p (q_lenS rfl Tryz.runUnderlying79) (al_p (q_move rfl) (al_end (aq_then ?_))))
 refine ac_block ?_
 refine ac_loop (β := List Nat) (fun x => x.length ≤ Q.lc) (fun x => [(2, (.slice F nf cf)), (3, (.pointer (some ⟨b1, 0, none⟩))), (6, (.slice none 0 0)), (7, (.slice (some ⟨bg, 0, none⟩) R.ld R.ld)), (8, (.slice (some ⟨b3, 0, none⟩) (Q.lc) (Q.lc))), (18, (.int .i64 ((Q.lc) : Int))), (19, (.int .i64 (x.length : Int)))]) (fun _ => _) (fun x => (b3, .cells (outR R.ld Q.lc x)) :: (bg, _) :: (b2, _) :: (b1, _) :: (boxR (fun k => (clL M (bgL M C) zs (k : Int)).flatMap SpanD.cells) x)) (fun x => Q.lc - x.length) [] (by simp) ⟨rfl, rfl, rfl, rfl, rfl, rfl, rfl, trivial⟩ (fun w9 hs => (by rw [outR_nil]; exact hs)) (fun x hF1 => ?_)
 refine ac_seq (ac_region ?_)
 refine al_p (q_lss rfl rfl) (al_end (aq_then ?_))
 refine ac_seq ?_
 refine ac_cond rfl (fun h1 => ?_) (fun h1 => ?_)
 ·have hxl : x.length < Q.lc := by have := of_decide_eq_true h1; omega
  refine ac_skip (aq_then (ac_seq (ac_block (ac_seq (ac_region ?_)))))
  refine al_p (q_move rfl) (al_p (q_assign rfl) (al_end (aq_then ?_)))
  refine ac_region (al_p (q_move rfl) (al_p (q_move rfl) (al_p (q_loadAll (i := 3) rfl rfl Tryz.isAgg29 Tryz.sizeOf29 rfl) (al_p (q_move rfl) ?_))))
  refine al_p (q_move rfl) (al_p (q_move rfl) (al_callS Tryz.call34 (.cons rfl (.cons rfl (.cons rfl (.cons rfl .nil)))) rfl rfl (fun w2 hs2 => ?_)))
  have hbg : IsT 1 intCells w2 (some ⟨bg, 0, none⟩) R.ld (bgL M C) := isT_box0 (n := 1) (enc := intCells) (fun _ => rfl) (hs2.at 1 rfl) (flat_int _) (by rw [bgL_len, hld])
  refine (claimsIn9_any R M (some ⟨bg, 0, none⟩) F R.ld R.ld nf cf (bgL M C) zs (x.length : Int) _ (hM.below hs2.below) hbg (hF.below hs2.below) hv.check (wthn_iff.2 ⟨by omega, by omega⟩) rfl (by omega) (bgL_bd M C) hzs).mono ?_
  rintro e u2 ⟨bc, rfl, G3, G4, hb_2⟩
  refine ⟨_, _, _, rfl, hs2.gift (own_row G3 G4 hb_2), ?_⟩
  refine al_p (q_indexAddr (i := x.length) (x.length) rfl rfl rfl hxl Tryz.runUnderlying79 Tryz.sizeOf81 (by omega)) ?_
  refine al_store1 (i := 1) rfl rfl rfl rfl Tryz.sizeOf81 (SetAt.ofSet (by rw [outR_len R.ld Q.lc x (by omega)]; exact hxl)) .k1 rfl (al_end (aq_inN (aq_then (ac_region ?_))))
  refine al_p (q_add rfl rfl (by omega)) (al_p (q_move rfl) (al_end (aq_then ?_)))
  skip
  refine aq_round ((bc :: x)) (by simp only [List.length_cons]; omega) (by simp only [List.length_cons]; omega) ⟨rfl, rfl, rfl, rfl, rfl, rfl, rfl, trivial⟩ (fun w9 hs => (by have h9 := hs; rw [outR_set R.ld Q.lc x bc hxl] at h9; exact h9.perm perm5))
 ·have hxe : x.length = Q.lc := by have := of_decide_eq_false h1; omega
  refine ac_exit (aq_thenE (aq_thenE (aq_hit (aq_then ?_))))
  refine ac_seq (ac_region ?_)
  refine al_p (q_move rfl) (al_p (q_assign rfl) (al_end (aq_then ?_)))
  refine ac_ret (ret1 Tryz.results20 rfl (fun w9 hs => ?_))
  exact ⟨b3, x.reverse, rfl, ⟨isT_box (n := 1) (enc := clC R.ld) (fun _ => rfl) (hs.at 0 rfl) (flat_clC R.ld x.reverse) (by simp [hxe]), hs.new 0 rfl, Nat.le_refl _, by omega⟩, fun k b hb => hs.rowR (z := 2) (enc := SpanD.cells) (F := fun k => clL M (bgL M C) zs (k : Int)) (bs := x) (fun _ => rfl) (by omega) (fun k => by rw [clL_len, hld]) (fun y hy => by simp [hy]) k b hb, hs.below⟩
theorem isT_lt {α : Type} {z n b o : Nat} {enc : α → List Value} {w : World} {zs : List α} (h : IsT z enc w (some ⟨b, o, none⟩) n zs) (h0 : 0 < n) : b < w.heap.size := by
 obtain ⟨b', o', e, h1, _⟩ := h.2 h0
 cases e; exact h1
theorem isT_cell {n b k x : Nat} {ld : Nat} {w : World} {zs : List Nat} (h : IsT 1 (clC ld) w (some ⟨b, 0, none⟩) n zs) (hx : zs[k]? = some x) : w.cell? ⟨b, 0 + k * 1 + 0, none⟩ = some (.slice (some ⟨x, 0, none⟩) ld ld) := by
 obtain ⟨b', o', e, _, h2⟩ := h.2 (by have := (List.getElem?_eq_some_iff.1 hx).1; have := h.1; omega)
 cases e; exact h2 k x hx 0 _ rfl
set_option maxRecDepth 100000 in
theorem cagr_own (F : Option Addr) (n cf : Nat) (cur : Int) (w : World) : Calls Tryz.prog 36 #[(.slice F n cf), (.int .i64 cur)] w (fun e w' => ∃ b1 b2, e = .returned (.func (.func 67) #[] #[.pointer (some ⟨b1, 0, none⟩), .pointer (some ⟨b2, 0, none⟩)]) ∧ Own w [(b2, .cells [.int .i64 cur]), (b1, .cells [.slice F n cf])] w') := by
 refine calls_ax (vs := [(.slice F n cf), (.int .i64 cur)]) Tryz.func36 rfl rfl ?_
 refine ac_seq (ac_region ?_)
 refine al_new (fun b => .pointer (some ⟨b, 0, none⟩)) (r_box rfl rfl) rfl rfl rfl ?_
 intro b1
 refine al_new (fun b => .pointer (some ⟨b, 0, none⟩)) (r_box rfl rfl) rfl rfl rfl ?_
 intro b2
 refine al_p (q_assign rfl) (al_end (aq_then ?_))
 refine ac_seq (ac_region ?_)
 refine al_p (q_makeFunc _ _ .nil (.cons rfl (.cons rfl .nil))) (al_p (q_assign rfl) (al_end (aq_then ?_)))
 refine ac_ret (ret1 Tryz.results36 rfl (fun w9 hs => ?_))
 exact ⟨b1, b2, rfl, hs.defer 0⟩
end
section
open Go.RowKit
theorem agL_len (zs : List SpanD) (cur : Int) : (agL zs cur).length ≤ zs.length := agUp_len (agF zs cur) zs.length
theorem foreign_lt {α : Type} {z n b o : Nat} {enc : α → List Value} {w : World} {F : Option Addr} {zs : List α} (h : IsT z enc w F n zs) (e : F = some ⟨b, o, none⟩) (h0 : 0 < n) : b < w.heap.size := by
 obtain ⟨b', o', e', h1, _⟩ := h.2 h0
 rw [e] at e'; cases e'; exact h1
set_option maxRecDepth 100000 in
theorem count9_any (F : Option Addr) (n cf : Nat) (zs : List SpanD) (cur : Int) (w : World) (hF : IsT 2 SpanD.cells w F n zs) (hn : n ≤ 1000) : Calls Tryz.prog 22 #[(.slice F n cf), (.int .i64 cur)] w (Ret (.int .i64 (((agL zs cur).length : Nat) : Int)) w) := by
 refine calls_axM (vs := [(.slice F n cf), (.int .i64 cur)]) Tryz.func22 rfl rfl ?_
 refine ac_seq (ac_region ?_)
 refine al_p (q_assign rfl) (al_end (aq_then ?_))
 refine ac_seq (ac_region ?_)
 refine al_new (fun b => .pointer (some ⟨b, 0, none⟩)) (r_alloc Tryz.zeroValue3 rfl) rfl rfl rfl ?_
 intro b1
 refine al_store1 (i := 0) rfl rfl rfl rfl Tryz.sizeOf3 .k0 .k0 rfl (al_end (aq_then ?_))
 refine ac_seq (ac_seq (ac_region ?_))
 refine al_p (q_move rfl) (al_p (q_move rfl) (al_callS Tryz.call36 (.cons rfl (.cons rfl .nil)) rfl rfl (fun w1 hs1 => ?_)))
 refine (cagr_own F n cf cur _).mono ?_
 rintro e u1 ⟨ba, bb, rfl, hb_1⟩
 refine ⟨_, _, _, rfl, hs1.gift hb_1, ?_⟩
 refine al_end (aq_then ?_)
 refine ac_block ?_
 refine ac_range1 (b := b1) (N := (agL zs cur).length) (Gd := fun k x => (agL zs cur)[k]? = some x) (enc := (fun x : Int => .int .i64 x)) 2 (fun k => .cells [.int .i64 ((k : Nat) : Int)]) (fun k x => [(5, (.pointer (some ⟨b1, 0, none⟩))), (9, (.int .i64 x))]) (fun k => [(bb, _), (ba, _), (b1, .cells [.int .i64 ((k : Nat) : Int)])]) rfl Tryz.call67 rfl rfl (fun _ => rfl) ?_ ?_ ?_ ?_
 ·intro v hs
  have hbl : w.heap.size ≤ b1 := (hs.box 2 _ _ rfl).1.resolve_right (by simp)
  have na : ba ≠ b1 := fun e => by have := hs.apart 1 2 b1 _ _ (by rw [← e]; rfl) rfl; omega
  have nb : bb ≠ b1 := fun e => by have := hs.apart 0 2 b1 _ _ (by rw [← e]; rfl) rfl; omega
  exact agreeing2_any ba bb n cf F zs cur [b1] v hn (hF.below hs.below) (((hs.at 1 rfl).cell _ rfl 0 _ rfl).1) (((hs.at 0 rfl).cell _ rfl 0 _ rfl).1) (hs.at 1 rfl).lt (hs.at 0 rfl).lt (by simpa using na) (by simpa using nb) (fun b o e h0 => by have := foreign_lt hF e h0; simp; omega)
 ·intro k x lf W Q9 hk9 hg9 hQ9 k9
  have hW9 : Wide (Fence.wide.inRound lf) := Or.inr ⟨lf, rfl⟩
  refine ci_skip ?_
  exact aq_sub k9 ⟨rfl, rfl, trivial⟩ (fun w9 hs => hs)
 ·intro k x lf W Q9 hk9 hg9 hQ9 hS9 k9
  have hW9 : Wide (Fence.wide.inRound lf) := Or.inr ⟨lf, rfl⟩
  have hl9 := agL_len zs cur
  have hz9 := hF.1
  refine ci_block ?_
  refine ci_region hW9 hQ9 rfl ?_
  refine al_p (q_load (i := 0) rfl rfl rfl Tryz.isAgg3) ?_
  refine al_p (q_add rfl rfl (by omega)) (al_store1 (i := 0) rfl rfl rfl rfl Tryz.sizeOf3 .k0 .k0 rfl (al_end (aq_inN ?_)))
  exact aq_sub k9 trivial (fun w9 hs => hs)
 ·intro lo9 D9 u9 a19 a29 a39 a49
  refine aq_inN (aq_then (ac_seq (ac_region ?_)))
  refine al_p (q_load (i := 2) rfl rfl rfl Tryz.isAgg3) (al_p (q_assign rfl) (al_end (aq_then ?_)))
  refine ac_ret (retMD Tryz.results22 (.tmp rfl .nil) .one (Nat.le_trans a19 a29) (fun w9 hs => ((hs.snap _ _ (.head _)).2.2.2.1 D9 a29 a39).trans a49) (fun w9 w8 hs hm9 hc9 => ?_))
  exact ⟨rfl, below_mark hs.below hc9 (Nat.le_trans a19 a29)⟩
end
section
open Go.RowKit
def begF (zs : List SpanD) (k : Nat) : Option Int := if vld (zs.getD k ⟨0, 0⟩).lo (zs.getD k ⟨0, 0⟩).hi = true then some (zs.getD k ⟨0, 0⟩).lo else none
def begU (zs : List SpanD) (k : Nat) : List Int := 0 :: (List.range k).filterMap (begF zs)
theorem begU_yes {zs : List SpanD} {k : Nat} (h : vld (zs.getD k ⟨0, 0⟩).lo (zs.getD k ⟨0, 0⟩).hi = true) : begU zs (k + 1) = begU zs k ++ [(zs.getD k ⟨0, 0⟩).lo] := by
 unfold begU; rw [filter_snoc, show begF zs k = some _ from by unfold begF; rw [if_pos h]]; rfl
theorem begU_no {zs : List SpanD} {k : Nat} (h : vld (zs.getD k ⟨0, 0⟩).lo (zs.getD k ⟨0, 0⟩).hi = false) : begU zs (k + 1) = begU zs k := by
 unfold begU; rw [filter_snoc, show begF zs k = none from by unfold begF; rw [if_neg (by rw [h]; decide)]]; simp
theorem begU_len (zs : List SpanD) (k : Nat) : (begU zs k).length ≤ k + 1 := by
 have := agUp_len (begF zs) k
 unfold begU; simp only [List.length_cons]; omega
def begL (zs : List SpanD) : List Int := sortI (begU zs zs.length)
theorem begL_len (zs : List SpanD) : (begL zs).length = (begU zs zs.length).length := List.length_mergeSort _
theorem gok_one0 (b : Nat) : gok (some (b, 1, [])) 1 1 [.int .i64 0] := ⟨rfl, fun h => (by cases h), fun b c sp e => (by cases e; exact ⟨by omega, by omega, rfl⟩)⟩
set_option maxRecDepth 100000 in
theorem values_own (A : Option Addr) (n c : Nat) (w : World) : Calls Tryz.prog 51 #[(.slice A n c)] w (fun e w' => ∃ b1, e = .returned (.func (.func 91) #[] #[.pointer (some ⟨b1, 0, none⟩)]) ∧ Own w [(b1, .cells [.slice A n c])] w') := by
 refine calls_ax (vs := [(.slice A n c)]) Tryz.func51 rfl rfl ?_
 refine ac_seq (ac_region ?_)
 refine al_new (fun b => .pointer (some ⟨b, 0, none⟩)) (r_box rfl rfl) rfl rfl rfl ?_
 intro b1
 refine al_p (q_assign rfl) (al_end (aq_then ?_))
 refine ac_seq (ac_region ?_)
 refine al_p (q_makeFunc _ _ .nil (.cons rfl .nil)) (al_p (q_assign rfl) (al_end (aq_then ?_)))
 refine ac_ret (ret1 Tryz.results51 rfl (fun w9 hs => ?_))
 exact ⟨b1, rfl, hs.defer 0⟩
theorem cad_bs_int_1_0_ (a0 : Value) (ha0 : a0.oneCell' = true) : ∀ w, (Instr.buildSlice 30 1 #[(0, a0)]).run Tryz.prog w = .ok (.slice (some ⟨w.heap.size, 0, none⟩) 1 1) (w.alloc (.cells [a0].toArray 3)) := by
 have ea0 : a0.cells = #[a0] := cells_one ha0
 intro w; (simp [Instr.buildSlice, Instr.fill, cells_agg, newRow, Tryz.runUnderlying30, Tryz.zeroValue3, Tryz.sizeOf3, ea0] <;> (rw [(by kernel_rfl : Array.range 1 = #[0])]; simp [Value.cells]))
set_option maxRecDepth 100000 in
theorem beginnings9_any (F : Option Addr) (n cf : Nat) (zs : List SpanD) (w : World) (hF : IsT 2 SpanD.cells w F n zs) (hn : n ≤ 1000) : Calls Tryz.prog 21 #[(.slice F n cf)] w (fun e w' => ∃ bv b c sp, e = .returned (.func (.func 91) #[] #[.pointer (some ⟨bv, 0, none⟩)]) ∧ Own w [(bv, .cells [.slice (some ⟨b, 0, none⟩) (begU zs n).length c]), (b, .cells ((begL zs).map (Value.int .i64) ++ sp))] w') := by
 refine calls_ax (vs := [(.slice F n cf)]) Tryz.func21 rfl rfl ?_
 refine ac_seq (ac_region ?_)
 refine al_p (q_assign rfl) (al_end (aq_then ?_))
 refine ac_seq (ac_region ?_)
 refine al_new (fun b => .slice (some ⟨b, 0, none⟩) 1 1) (r_buildSlice (.cons rfl .nil) (cad_bs_int_1_0_ _ rfl)) rfl rfl rfl ?_
 intro b1
 refine al_p (q_assign rfl) (al_end (aq_then ?_))
 refine ac_seq (ac_seq (ac_toTail (n := 1) (cs := [.int .i64 0]) (G := []) .z .z ?_))
 refine ac_region (al_p (q_move rfl) (al_p (q_lenS rfl Tryz.runUnderlying81) (al_p (q_move rfl) (al_end (aq_then ?_)))))
 refine ac_block (ac_loop (β := Nat × Gr × List Value) (fun k => k.1 ≤ n ∧ gok k.2.1 (begU zs k.1).length 1 k.2.2 ∧ k.2.2 = (begU zs k.1).map (Value.int .i64)) (fun k => [(2, .nilFunc), (3, (.slice (gA k.2.1) (begU zs k.1).length (gC k.2.1))), (7, (.slice F n cf)), (8, (.int .i64 (n : Int))), (9, (.int .i64 (k.1 : Int)))]) (fun _ => _) (fun k => (gt k.2.1 k.2.2 ++ ([]))) (fun k => n - k.1) (0, some (b1, 1, []), [.int .i64 0]) ⟨by simp, gok_one0 b1, rfl⟩ ⟨rfl, rfl, rfl, rfl, rfl, trivial⟩ (fun w9 hs => hs) (fun k hF1 => ?_))
 obtain ⟨hla, hgk, hcs⟩ := hF1
 have hbl := begU_len zs k.1
 refine ac_seq (ac_region ?_)
 refine al_p (q_lss rfl rfl) (al_end (aq_then ?_))
 refine ac_seq ?_
 refine ac_cond rfl (fun h1 => ?_) (fun h1 => ?_)
 ·have hkl : k.1 < n := by have := of_decide_eq_true h1; omega
  obtain ⟨b11, o11, hA1, hlt1, hget1⟩ := hF.2 (by omega)
  have hx1 := getD_get (l := zs) (d := ⟨0, 0⟩) (k := k.1) (by have := hF.1; omega)
  refine ac_skip (aq_then (ac_seq (ac_block (ac_seq (ac_region ?_)))))
  refine al_p (q_indexAddrA (i := k.1) (o11 + k.1 * 2 + 0) hA1 rfl rfl rfl (by omega) Tryz.runUnderlying81 Tryz.sizeOf67 rfl) (al_p (q_loadXs (SpanD.cells (zs.getD k.1 ⟨0, 0⟩)) rfl Tryz.isAgg67 Tryz.sizeOf67 (fun w9 hs j9 v9 h9 => by rw [addr_add]; exact (hs.below.cell (p := ⟨_, _, none⟩) hlt1).trans ((hget1 k.1 _ hx1) j9 v9 h9)) rfl) (al_new (fun b => .pointer (some ⟨b, 0, none⟩)) (r_alloc Tryz.zeroValue67 rfl) rfl rfl rfl ?_))
  intro b2
  refine al_storeAll (i := 0) rfl rfl rfl rfl Tryz.sizeOf67 rfl rfl .k0 rfl (al_end (aq_then ?_))
  refine ac_seq (ac_region ?_)
  refine al_p (q_loadAll (i := 0) rfl rfl Tryz.isAgg67 Tryz.sizeOf67 rfl) (al_call Tryz.call48 (.cons rfl .nil) rfl rfl (fun w1 hs1 => ?_))
  refine (valid_any (zs.getD k.1 ⟨0, 0⟩).lo (zs.getD k.1 ⟨0, 0⟩).hi _).mono ?_
  rintro e u1 ⟨rfl, hb_1⟩
  refine ⟨_, rfl, hb_1, ?_⟩
  clear hs1
  refine al_end (aq_then ?_)
  refine ac_cond rfl (fun h2 => ?_) (fun h2 => ?_)
  ·have hct := begU_yes (zs := zs) (k := k.1) h2
   refine ac_region (al_p (q_move rfl) ?_)
   refine al_p (q_fieldAddr 0 rfl Tryz.runUnderlying67 rfl Tryz.sizeOf3 (by decide) rfl) (al_p (q_load (i := 0) rfl rfl rfl Tryz.isAgg3) (al_new (fun b => .slice (some ⟨b, 0, none⟩) 1 1) (r_buildSlice (.cons rfl .nil) (cad_bs_int_1_0_ _ rfl)) rfl rfl rfl ?_))
   intro b3
   refine al_grow (z := 1) (bytes := 8) (zv := (.int .i64 0)) (o := k.2.1) (cs := k.2.2) (vs := [.int .i64 (zs.getD k.1 ⟨0, 0⟩).lo]) rfl rfl (.s (.s (.z))) hgk (Sor.box (j := 0) rfl rfl rfl) Tryz.underlying30 (by kernel_rfl) rfl (by omega) (by decide) rfl rfl (fun o_1 g_1 => ?_)
   refine ⟨_, (.s (.s (.z))), ?_⟩
   refine al_p (q_assign rfl) (al_end (aq_inN (aq_then (ac_region ?_))))
   refine al_p (q_add rfl rfl (by omega)) (al_p (q_move rfl) (al_end (aq_then ?_)))
   skip
   refine aq_round ((k.1 + 1, o_1, (k.2.2 ++ [.int .i64 (zs.getD k.1 ⟨0, 0⟩).lo]))) (by simp only; omega) ⟨by simp only; omega, by simp only; rw [hct, List.length_append]; exact g_1, by simp only; rw [hct, hcs, List.map_append]; rfl⟩ ⟨rfl, (by simp only; rw [hct]; first | rfl | (rw [List.length_append]; rfl)), rfl, rfl, rfl, trivial⟩ (fun w9 hs => ((hs.fewer 1 rfl).tail 2 rfl))
  ·have hct := begU_no (zs := zs) (k := k.1) h2
   refine ac_skip (aq_inN (aq_then (ac_region ?_)))
   refine al_p (q_add rfl rfl (by omega)) (al_p (q_move rfl) (al_end (aq_then ?_)))
   skip
   refine aq_round ((k.1 + 1, k.2.1, k.2.2)) (by simp only; omega) ⟨by simp only; omega, by simp only; rw [hct]; exact hgk, by simp only; rw [hct]; exact hcs⟩ ⟨rfl, (by simp only; rw [hct]; first | rfl | (rw [List.length_append]; rfl)), rfl, rfl, rfl, trivial⟩ (fun w9 hs => ((hs.fewer 1 rfl).tail 1 rfl))
 ·have hke : k.1 = n := by have := of_decide_eq_false h1; omega
  refine ac_exit (aq_thenE (aq_thenE (aq_hit (aq_then ?_))))
  refine ac_seq (ac_region ?_)
  refine al_p (q_move rfl) (al_callS Tryz.call50 (.cons rfl .nil) rfl rfl (fun w2 hs2 => ?_))
  obtain ⟨b_t, c_t, sp_t, ho⟩ := hgk.some (by unfold begU; simp)
  have hx_20 := hs2
  rw [ho] at hx_20
  refine ((show Calls Tryz.prog 50 #[.slice (gA k.2.1) (begU zs k.1).length (gC k.2.1)] w2 _ from by rw [ho]; exact sort9_any b_t _ c_t (begU zs k.1) sp_t w2 rfl (by have := hx_20.at 0 rfl; rw [hcs] at this; exact this) (by have := begU_len zs k.1; omega))).mono ?_
  rintro e u2 ⟨rfl, HC9, hb_29⟩
  refine ⟨_, _, _, rfl, (show Sta _ _ (gt (some (b_t, c_t, sp_t)) ((sortI (begU zs k.1)).map (Value.int .i64))) u2 from hx_20.change (i := 0) rfl HC9 hb_29), ?_⟩
  refine al_end (aq_then ?_)
  refine ac_seq (ac_region ?_)
  refine al_p (q_move rfl) (al_callS Tryz.call51 (.cons rfl .nil) rfl rfl (fun w3 hs3 => ?_))
  refine (values_own _ _ _ _).mono ?_
  rintro e u3 ⟨bv, rfl, hb_3⟩
  refine ⟨_, _, _, rfl, hs3.gift hb_3, ?_⟩
  refine al_p (q_assign rfl) (al_end (aq_then ?_))
  refine ac_ret (ret1 Tryz.results21 rfl (fun w9 hs => ?_))
  rw [ho, hke] at hs
  have hzl := hF.1
  exact ⟨bv, b_t, c_t, sp_t, rfl, by unfold begL; rw [hzl]; exact hs.defer 0⟩
end
section
open Go.RowKit Go.Shelf
attribute [local go_sem] Oper.semAt_some
set_option maxRecDepth 100000 in
set_option maxHeartbeats 4000000 in
theorem valuesI_any (bv N dc : Nat) (DL : Option Addr) (ds : List Int) (X : List Nat) (w : World) (hbv : w.cell? ⟨bv, 0, none⟩ = some (.slice DL N dc)) (lbv : bv < w.heap.size) (hI : IsT 1 intCells w DL N ds) (hN : N ≤ 1000000) (x1 : bv ∉ X) (x2 : ∀ b o, DL = some ⟨b, o, none⟩ → b ∉ X) :
  IterAll Tryz.prog 91 #[.pointer (some ⟨bv, 0, none⟩)] (fun x : Int => .int .i64 x) (fun _ k x _ => ds[k]? = some x) X 0 N w := by
 intro l J W hw hl hl2 hJ hY h0
 have HJ := Lib.hid hJ
 have HY := Lib.hid hY
 have hf2 : ∀ W2, Chg (l :: X) W W2 → IsT 1 intCells W2 DL N ds := fun W2 hc => by
  refine (hI.below hw).keep hc.size fun b o e h0 => ?_
  obtain ⟨b', o', e', h1, h2⟩ := hI.2 h0
  rw [e] at e'; cases e'
  exact hc.block b (Nat.lt_of_lt_of_le h1 hw.size) (fun h => by
   rcases List.mem_cons.1 h with h | h
   ·omega
   ·exact x2 b o e h)
 have HF := Lib.hid hf2
 have hJ0 : J [] 0 W := h0 [] rfl (fun z h => by cases h)
 have cb := (hw.cell (p := ⟨bv, 0, none⟩) lbv).trans hbv
 clear hJ hY h0 hf2 hI hbv x1 x2
 show CallsIn _ _ _ _ #[.func (.yield l) #[] #[], .pointer (some ⟨bv, 0, none⟩)] W _
 refine callsIn_of_wp Tryz.func91 rfl trivial ?_ rfl
 simp only [Tryz.ntmps91, List.size_toArray, List.length_cons, List.length_nil, Nat.reduceAdd, Nat.reduceSub, Array.replicate_succ, Array.replicate_zero, List.push_toArray, List.append_toArray, List.nil_append, List.cons_append]
 gi_wp2
 gi_loopw [7] (fun i wx => ∃ k : Nat, k ≤ N ∧ i = .int .i64 k ∧ J [] k wx ∧ Chg (l :: X) W wx) (fun i _ => N - (intOf i).toNat)
 case atStart => exact ⟨0, Nat.zero_le _, rfl, hJ0, Chg.refl _ _⟩
 case round =>
  obtain ⟨k, hk, rfl, hJs, hB⟩ := hrel
  by_cases hlt : k < N
  ·obtain ⟨hlen, hcf⟩ := HF.out wr hB
   obtain ⟨bf, of, rfl, hbf, hcg⟩ := hcf (by omega)
   obtain ⟨s, hs⟩ : ∃ s, ds[k]? = some s := ⟨_, List.getElem?_eq_getElem (by omega)⟩
   have e0 : wr.cell? ⟨bf, of + k, none⟩ = some (.int .i64 s) := by have h := hcg k s hs 0 _ rfl; simpa using h
   have HYk := Lib.hid (fun W1 (hJ1 : J [] k W1) => HY.out [] k s W1 hlt hJ1 hs)
   clear hcf hcg hs hlen
   gi_wp2_with fail
   obtain ⟨fn, tmps, assign, body, hy, hR⟩ := HYk.out _ hJs
   rw [hy]
   refine ⟨fun h => (by cases h), (roundIn_n hR).mono ?_⟩
   clear hR hy
   rintro e W3 ⟨rfl, hJ3, hk3⟩
   have hB3 := hB.trans hk3
   gi_wp2
   go_roundw
   case rel => exact ⟨k + 1, by omega, by go_num, hJ3, hB3⟩
   case measure => simp [intOf]; omega
  ·obtain rfl : k = N := by omega
   gi_wp2
   go_end0
   exact ⟨⟨_, rfl⟩, [], hJs⟩
end
section
open Go.RowKit Go.Shelf
def briefB (la lb lc ld p q s n : Nat) : Bool := (decide (la ≤ 40) && (decide (lb ≤ 40) && (decide (lc ≤ 40) && (decide (ld ≤ 60) && (decide (p ≤ 100) && (decide (q ≤ 100) && (decide (s ≤ 200) && decide (n ≤ 100))))))))
set_option maxRecDepth 100000 in
set_option maxHeartbeats 4000000 in
theorem brief_any (name : ByteArray) (A B C D : Option Addr) (la ca lb cb lc cc ld cd : Nat) (r z nr nz step : Int) (P Q S F : Option Addr) (p pc q qc s sc n nc : Nat) (w : World) :
  Calls Tryz.prog 14 #[.agg #[.string name, .slice A la ca, .slice B lb cb, .slice C lc cc, .int .i64 r, .int .i64 z, .int .i64 nr, .int .i64 nz, .int .i64 step, .slice D ld cd], .agg #[.slice P p pc, .slice Q q qc, .slice S s sc], .slice F n nc] w (Ret (.bool (briefB la lb lc ld p q s n)) w) := by
 have HE : Hid (briefB la lb lc ld p q s n = (decide (la ≤ 40) && (decide (lb ≤ 40) && (decide (lc ≤ 40) && (decide (ld ≤ 60) && (decide (p ≤ 100) && (decide (q ≤ 100) && (decide (s ≤ 200) && decide (n ≤ 100))))))))) := Lib.hid rfl
 generalize briefB la lb lc ld p q s n = G at *
 by_cases k0 : la ≤ 40
 rotate_left
 ·have HF : Hid (false = G) := Lib.hid (by rw [HE.out, decide_eq_false k0]; simp)
  clear HE
  go_enter Tryz.func14, Tryz.ntmps14
  go_wp2_with fail
  go_ret
  exact ⟨by rw [← HF.out]; rfl, by (repeat first | with_reducible exact Below.refl _ _ | (with_reducible refine Below.alloc ?_ ?_ _; rotate_left; exact (by first | omega | (simp; done))))⟩
 by_cases k1 : lb ≤ 40
 rotate_left
 ·have HF : Hid (false = G) := Lib.hid (by rw [HE.out, decide_eq_false k1]; simp)
  clear HE
  go_enter Tryz.func14, Tryz.ntmps14
  go_wp2_with fail
  go_ret
  exact ⟨by rw [← HF.out]; rfl, by (repeat first | with_reducible exact Below.refl _ _ | (with_reducible refine Below.alloc ?_ ?_ _; rotate_left; exact (by first | omega | (simp; done))))⟩
 by_cases k2 : lc ≤ 40
 rotate_left
 ·have HF : Hid (false = G) := Lib.hid (by rw [HE.out, decide_eq_false k2]; simp)
  clear HE
  go_enter Tryz.func14, Tryz.ntmps14
  go_wp2_with fail
  go_ret
  exact ⟨by rw [← HF.out]; rfl, by (repeat first | with_reducible exact Below.refl _ _ | (with_reducible refine Below.alloc ?_ ?_ _; rotate_left; exact (by first | omega | (simp; done))))⟩
 by_cases k3 : ld ≤ 60
 rotate_left
 ·have HF : Hid (false = G) := Lib.hid (by rw [HE.out, decide_eq_false k3]; simp)
  clear HE
  go_enter Tryz.func14, Tryz.ntmps14
  go_wp2_with fail
  go_ret
  exact ⟨by rw [← HF.out]; rfl, by (repeat first | with_reducible exact Below.refl _ _ | (with_reducible refine Below.alloc ?_ ?_ _; rotate_left; exact (by first | omega | (simp; done))))⟩
 by_cases k4 : p ≤ 100
 rotate_left
 ·have HF : Hid (false = G) := Lib.hid (by rw [HE.out, decide_eq_false k4]; simp)
  clear HE
  go_enter Tryz.func14, Tryz.ntmps14
  go_wp2_with fail
  go_ret
  exact ⟨by rw [← HF.out]; rfl, by (repeat first | with_reducible exact Below.refl _ _ | (with_reducible refine Below.alloc ?_ ?_ _; rotate_left; exact (by first | omega | (simp; done))))⟩
 by_cases k5 : q ≤ 100
 rotate_left
 ·have HF : Hid (false = G) := Lib.hid (by rw [HE.out, decide_eq_false k5]; simp)
  clear HE
  go_enter Tryz.func14, Tryz.ntmps14
  go_wp2_with fail
  go_ret
  exact ⟨by rw [← HF.out]; rfl, by (repeat first | with_reducible exact Below.refl _ _ | (with_reducible refine Below.alloc ?_ ?_ _; rotate_left; exact (by first | omega | (simp; done))))⟩
 by_cases k6 : s ≤ 200
 rotate_left
 ·have HF : Hid (false = G) := Lib.hid (by rw [HE.out, decide_eq_false k6]; simp)
  clear HE
  go_enter Tryz.func14, Tryz.ntmps14
  go_wp2_with fail
  go_ret
  exact ⟨by rw [← HF.out]; rfl, by (repeat first | with_reducible exact Below.refl _ _ | (with_reducible refine Below.alloc ?_ ?_ _; rotate_left; exact (by first | omega | (simp; done))))⟩
 by_cases k7 : n ≤ 100
 rotate_left
 ·have HF : Hid (false = G) := Lib.hid (by rw [HE.out, decide_eq_false k7]; simp)
  clear HE
  have dn : decide ((n : Int) ≤ 100) = false := decide_eq_false (by omega)
  go_enter Tryz.func14, Tryz.ntmps14
  go_wp2_with fail
  go_ret
  exact ⟨by rw [← HF.out]; rfl, by (repeat first | with_reducible exact Below.refl _ _ | (with_reducible refine Below.alloc ?_ ?_ _; rotate_left; exact (by first | omega | (simp; done))))⟩
 have HF : Hid (true = G) := Lib.hid (by rw [HE.out, decide_eq_true k0, decide_eq_true k1, decide_eq_true k2, decide_eq_true k3, decide_eq_true k4, decide_eq_true k5, decide_eq_true k6, decide_eq_true k7]; rfl)
 clear HE
 have dn : decide ((n : Int) ≤ 100) = true := decide_eq_true (by omega)
 go_enter Tryz.func14, Tryz.ntmps14
 go_wp2_with fail
 go_ret
 exact ⟨by rw [← HF.out]; rfl, by (repeat first | with_reducible exact Below.refl _ _ | (with_reducible refine Below.alloc ?_ ?_ _; rotate_left; exact (by first | omega | (simp; done))))⟩
theorem brief_bd {la lb lc ld p q s n : Nat} (h : briefB la lb lc ld p q s n = true) : la ≤ 40 ∧ lb ≤ 40 ∧ lc ≤ 40 ∧ ld ≤ 60 ∧ p ≤ 100 ∧ q ≤ 100 ∧ s ≤ 200 ∧ n ≤ 100 := by
 simpa [briefB, Bool.and_eq_true, decide_eq_true_iff] using h
end
section
open Go.RowKit Go.Shelf
theorem same_drop {xs ys : List Int} {k : Nat} {a b : Int} (h1 : xs[k]? = some a) (h2 : ys[k]? = some b) : decide (xs.drop k = ys.drop k) = (decide (a = b) && decide (xs.drop (k + 1) = ys.drop (k + 1))) := by
 obtain ⟨k1, rfl⟩ := List.getElem?_eq_some_iff.1 h1
 obtain ⟨k2, rfl⟩ := List.getElem?_eq_some_iff.1 h2
 rw [List.drop_eq_getElem_cons k1, List.drop_eq_getElem_cons k2]
 simp only [List.cons.injEq, Bool.decide_and]
set_option maxRecDepth 100000 in
set_option maxHeartbeats 4000000 in
theorem rsame_any (A B : Option Addr) (la ca lb cb : Nat) (xs ys : List Int) (w : World) (h1 : IsT 1 intCells w A la xs) (h2 : IsT 1 intCells w B lb ys) (l1 : la ≤ 1000000000000000) (l2 : lb ≤ 1000000000000000) :
  Calls Tryz.prog 10 #[.slice A la ca, .slice B lb cb] w (Ret (.bool (decide (xs = ys))) w) := by
 have n1 := h1.1
 have n2 := h2.1
 have I1 := Lib.hid h1
 have I2 := Lib.hid h2
 have HG : Hid (decide (xs = ys) = decide (xs.drop 0 = ys.drop 0)) := Lib.hid rfl
 have HN : Hid (la ≠ lb → false = decide (xs = ys)) := Lib.hid (fun h => (decide_eq_false (fun e => h (by rw [← n1, ← n2, e]))).symm)
 clear h1 h2
 generalize decide (xs = ys) = G at *
 by_cases b1 : la = lb
 ·have e1 := (int_eq la lb).trans (decide_eq_true b1)
  subst b1
  have HG2 : Hid (decide (xs.drop 0 = ys.drop 0) = G) := Lib.hid HG.out.symm
  clear HG HN
  go_enter Tryz.func10, Tryz.ntmps10
  go_wp2_with fail
  go_loopw [5] (fun i wr => ∃ j : Nat, j ≤ la ∧ i = .int .i64 j ∧ Hid (decide (xs.drop j = ys.drop j) = G) ∧ Below w.heap.size w wr) (fun i _ => la - (intOf i).toNat)
  case atStart => exact ⟨0, Nat.zero_le _, rfl, HG2, by (repeat with_reducible exact Below.refl _ _)⟩
  case round =>
   obtain ⟨j, hj, rfl, hG, hB⟩ := hrel
   have sz0 := hB.size
   by_cases hlt : j < la
   ·obtain ⟨-, hcl1⟩ := I1.out.below hB
    obtain ⟨b1, o1, rfl, hb1, hcl1⟩ := hcl1 (by omega)
    obtain ⟨-, hcl2⟩ := I2.out.below hB
    obtain ⟨b2, o2, rfl, hb2, hcl2⟩ := hcl2 (by omega)
    obtain ⟨x, hx⟩ : ∃ x, xs[j]? = some x := ⟨_, List.getElem?_eq_getElem (by omega)⟩
    obtain ⟨y, hy⟩ : ∃ y, ys[j]? = some y := ⟨_, List.getElem?_eq_getElem (by omega)⟩
    have x0 : wr.cell? ⟨b1, o1 + j, none⟩ = some (.int .i64 x) := by have h := hcl1 j x hx 0 _ rfl; simpa using h
    have y0 : wr.cell? ⟨b2, o2 + j, none⟩ = some (.int .i64 y) := by have h := hcl2 j y hy 0 _ rfl; simpa using h
    have HS := Lib.hid (hG.out.symm.trans (same_drop hx hy))
    clear hcl1 hcl2 hx hy hG
    have HZ : Hid (∀ w' : World, Below wr.heap.size wr w' → (Below wr.heap.size wr w' ∧ w'.cell? ⟨b1, o1 + j, none⟩ = some (.int .i64 x) ∧ w'.cell? ⟨b2, o2 + j, none⟩ = some (.int .i64 y))) := Lib.hid (fun w' h => ⟨h, (h.cell (p := ⟨b1, o1 + j, none⟩) hb1).trans x0, (h.cell (p := ⟨b2, o2 + j, none⟩) hb2).trans y0⟩)
    have jc : (0 : Int) ≤ j := by omega
    have jn : ((j : Int)).toNat = j := by omega
    by_cases e : x = y
    ·have e2 : (x == y) = true := by rw [e]; simp
     have HT : Hid (decide (xs.drop (j + 1) = ys.drop (j + 1)) = G) := Lib.hid (by rw [HS.out, decide_eq_true e, Bool.true_and])
     clear HS
     go_wp2_with fail
     go_region_held3 (fun w' => Below wr.heap.size wr w' ∧ w'.cell? ⟨b1, o1 + j, none⟩ = some (.int .i64 x) ∧ w'.cell? ⟨b2, o2 + j, none⟩ = some (.int .i64 y)) (exact HZ.out _ (by (repeat first | with_reducible exact Below.refl _ _ | with_reducible refine Below.drew ?_))) (fail)
     all_goals go_wp2_with fail
     go_roundw
     case rel => exact ⟨j + 1, by omega, by go_num, HT, by (repeat first | with_reducible assumption | with_reducible refine Below.drew ?_)⟩
     case measure => simp [intOf]; omega
    ·have e2 : (x == y) = false := by rw [beq_eq_false_iff_ne]; exact e
     have HT : Hid (false = G) := Lib.hid (by rw [HS.out, decide_eq_false e, Bool.false_and])
     clear HS
     go_wp2_with fail
     go_region_held3 (fun w' => Below wr.heap.size wr w' ∧ w'.cell? ⟨b1, o1 + j, none⟩ = some (.int .i64 x) ∧ w'.cell? ⟨b2, o2 + j, none⟩ = some (.int .i64 y)) (exact HZ.out _ (by (repeat first | with_reducible exact Below.refl _ _ | with_reducible refine Below.drew ?_))) (fail)
     all_goals go_wp2_with fail
     go_ret
     exact ⟨by rw [← HT.out]; rfl, by (repeat first | with_reducible assumption | with_reducible refine Below.drew ?_)⟩
   ·have HT : Hid (true = G) := Lib.hid (by
     have h := hG.out
     rw [List.drop_of_length_le (by omega), List.drop_of_length_le (by omega)] at h
     exact h)
    clear hG
    go_wp2_with fail
    go_ret
    exact ⟨by rw [← HT.out]; rfl, by (repeat with_reducible assumption)⟩
 ·have e1 := (int_eq la lb).trans (decide_eq_false b1)
  have HT := Lib.hid (HN.out b1)
  clear HG HN
  go_enter Tryz.func10, Tryz.ntmps10
  go_wp2_with fail
  go_ret
  exact ⟨by rw [← HT.out]; rfl, by (repeat with_reducible exact Below.refl _ _)⟩
end
section
set_option maxRecDepth 100000
open Go.ChangeShapes Go.WideShapes Go.ChangeAt Go.RowKit Go.Joins
theorem own : ownKnob Tryz.prog.godebug = none := by kernel_rfl
theorem cells_int : Tryz.prog.cellsOf 3 = 1 := by kernel_rfl
section
variable {H : Type} {enc : TypeId × Value → H}
end
end
end Go.Proofs.YthggkidiidnaoaaGreatDoor
