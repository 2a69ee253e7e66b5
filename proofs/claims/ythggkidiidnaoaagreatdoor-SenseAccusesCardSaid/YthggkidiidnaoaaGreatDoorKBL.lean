import Derived.Test.YthggkidiidnaoaaGreatDoorKAC
import Derived.Test.YthggkidiidnaoaaGreatDoorKAD
import Derived.Test.YthggkidiidnaoaaGreatDoorKAF
import Derived.Test.YthggkidiidnaoaaGreatDoorKAO
import Derived.Test.YthggkidiidnaoaaGreatDoorKAQ
import Derived.Test.YthggkidiidnaoaaGreatDoorKAX
import Derived.Test.YthggkidiidnaoaaGreatDoorKAY
import Derived.Test.YthggkidiidnaoaaGreatDoorKAZ
import Derived.Test.YthggkidiidnaoaaGreatDoorKBA
import Derived.Test.YthggkidiidnaoaaGreatDoorKBB
import Derived.Test.YthggkidiidnaoaaGreatDoorKBD
import Derived.Test.YthggkidiidnaoaaGreatDoorKBF
import Derived.Test.YthggkidiidnaoaaGreatDoorKBK
import Derived.Test.YthggkidiidnaoaaGreatDoorRows
import Derived.KernelRfl
import Derived.Laws.StructEq
namespace Go.Proofs.YthggkidiidnaoaaGreatDoor
set_option linter.unusedVariables false
set_option linter.unusedSimpArgs false
section
open Go.RowKit
theorem Sta.call1 {E : Cfg} {U : Snaps} {w w' : World} (h : Sta E U [] w) (hb : Below w.heap.size w w') : Sta E ((E.w.heap.size, w') :: U) [] w' := by
 have h' := h.ext hb
 refine ⟨h'.chg, h'.box, h'.apart, fun lo u hu => ?_⟩
 cases hu with
 | head => exact ⟨Nat.le_refl _, h'.chg.size, Nat.le_refl _, fun k _ hk => rfl, h'.chg.block, fun i b cs hi => by cases hi⟩
 | tail _ hu => exact h'.snap lo u hu
theorem Sta.big1 {n : Nat} {D : List Deferred} {w0 u w : World} {U : Snaps} {L : Boxes} {v : Value} {z : Int} (h : Sta ⟨n, D, w0, []⟩ U L w) (hu : (w0.heap.size, u) ∈ U) (hV : BigV u v z) : BigV w v z := by
 obtain ⟨A, m, cap, P, e, ⟨hl, hI⟩, h2⟩ := hV
 obtain ⟨s0, s1, s2, s3, s4, -⟩ := h.snap _ _ hu
 refine ⟨A, m, cap, P, e, ⟨hl, fun h0 => ?_⟩, h2⟩
 obtain ⟨b, o, e1, q1, q2, q3⟩ := hI h0
 refine ⟨b, o, e1, q1, Nat.lt_of_lt_of_le q2 s2, fun j hj => ?_⟩
 have hk : w.heap[b]? = u.heap[b]? := by
  rcases Nat.lt_or_ge b w0.heap.size with g | g
  ·exact (h.chg.block b g (by simp)).trans (s4 b g (by simp)).symm
  ·exact s3 b g q2
 rw [World.cell?_of_block (w := u) (w' := w) (a := ⟨b, _, none⟩) hk]; exact q3 j hj
theorem aq_perm {E : Cfg} {U : Snaps} {l : Slots} {L L' : Boxes} {X : Act → World → Prop} (hp : L.Perm L') (h : AQ E U l L' X) : AQ E U l L X := fun a w hf hs => h a w hf (hs.perm hp)
def okAl (lo hi b n : Int) : Bool := decide ((allowL lo hi b n).1 ≤ (allowL lo hi b n).2)
theorem okAl_vld (lo hi b n : Int) : okAl lo hi b n = vld (allowL lo hi b n).1 (allowL lo hi b n).2 := by
 have h : 0 ≤ (allowL lo hi b n).1 ∧ (allowL lo hi b n).2 ≤ 1000000 := by
  unfold allowL possL
  split
  ·exact ⟨by simp only; omega, by simp only; omega⟩
  ·split
   ·exact ⟨by simp only; omega, by simp only; omega⟩
   ·split
    ·exact ⟨by simp only; omega, by simp only; omega⟩
    ·exact ⟨by simp only; omega, by simp only; omega⟩
 rw [Bool.eq_iff_iff, okAl, decide_eq_true_iff, vld_iff]
 omega
theorem allow_zero {lo hi b : Int} (hv : vld lo hi = true) : allowL lo hi b 0 = if wthn b lo hi = true then (0, 1000000) else (1, 0) := by
 unfold allowL possL
 rw [if_neg (by omega), if_neg (by omega), cont, hv, Bool.true_and, show (decide (lo ≤ b) && decide (b ≤ hi)) = wthn b lo hi from rfl]
 rfl
set_option maxRecDepth 100000 in
theorem rceil4_any (a b : Int) (w : World) (h0 : -100000000000000000 ≤ a) (h1 : a ≤ 100000000000000000) (k0 : -1000000 ≤ b) (k1 : b ≤ 1000000) (hb : b ≠ 0) : Calls Tryz.prog 58 #[(.int .i64 a), (.int .i64 b)] w (Ret (.int .i64 (cei a b)) w) := by
 refine calls_ax (vs := [(.int .i64 a), (.int .i64 b)]) Tryz.func58 rfl rfl ?_
 refine ac_seq (ac_region ?_)
 refine al_p (q_assign rfl) (al_end (aq_then ?_))
 refine ac_seq (ac_region ?_)
 refine al_p (q_move rfl) (al_callS Tryz.call105 (.cons rfl .nil) rfl rfl (fun w1 hs1 => ?_))
 refine (of_big a _ (by omega) (by omega)).mono ?_
 rintro e u1 ⟨v1, rfl, Vv1, hb_1⟩
 refine ⟨_, _, _, rfl, hs1.call1 hb_1, ?_⟩
 refine al_p (q_move rfl) (al_callS Tryz.call105 (.cons rfl .nil) rfl rfl (fun w2 hs2 => ?_))
 refine (of_big b _ (by omega) (by omega)).mono ?_
 rintro e u2 ⟨v2, rfl, Vv2, hb_2⟩
 refine ⟨_, _, _, rfl, hs2.call1 hb_2, ?_⟩
 refine al_callS Tryz.call104 (.cons rfl (.cons rfl .nil)) rfl rfl (fun w3 hs3 => ?_)
 refine (ceil_big a b v1 v2 _ (hs3.big1 (.tail _ (.head _)) Vv1) (hs3.big1 (.head _) Vv2) (by simp only [pw]; omega) (by simp only [pw]; omega) hb).mono ?_
 rintro e u3 ⟨v5, rfl, Vv5, hb_3⟩
 have Vw5 := Vv5.big
 refine ⟨_, _, _, rfl, hs3.call1 hb_3, ?_⟩
 refine al_call Tryz.call103 (.cons rfl .nil) rfl rfl (fun w4 hs4 => ?_)
 refine (int_any (cei a b) v5 _ (hs4.big1 (.head _) Vw5)).mono ?_
 rintro e u4 ⟨rfl, hb_4⟩
 refine ⟨_, rfl, hb_4, ?_⟩
 clear hs4
 refine al_p (q_move rfl) (al_p (q_extract rfl rfl) (al_p (q_extract rfl rfl) (al_p (q_assign rfl) (al_p (q_assign rfl) ?_))))
 refine al_end (aq_then ?_)
 refine ac_seq (ac_region ?_)
 refine al_p (q_move rfl) (al_p (q_assign rfl) (al_end (aq_then ?_)))
 refine ac_ret (ret1 Tryz.results58 rfl (fun w9 hs => ?_))
 refine ⟨?_, hs.below⟩; have q9 := cei_abs (x := a) (y := b) (k := 100000000000000000) h0 h1 (by omega) hb; unfold intL; rw [if_pos (by omega)]
set_option maxRecDepth 100000 in
theorem rfloor4_any (a b : Int) (w : World) (h0 : -100000000000000000 ≤ a) (h1 : a ≤ 100000000000000000) (k0 : -1000000 ≤ b) (k1 : b ≤ 1000000) (hb : b ≠ 0) : Calls Tryz.prog 59 #[(.int .i64 a), (.int .i64 b)] w (Ret (.int .i64 (flo a b)) w) := by
 refine calls_ax (vs := [(.int .i64 a), (.int .i64 b)]) Tryz.func59 rfl rfl ?_
 refine ac_seq (ac_region ?_)
 refine al_p (q_assign rfl) (al_end (aq_then ?_))
 refine ac_seq (ac_region ?_)
 refine al_p (q_move rfl) (al_callS Tryz.call105 (.cons rfl .nil) rfl rfl (fun w1 hs1 => ?_))
 refine (of_big a _ (by omega) (by omega)).mono ?_
 rintro e u1 ⟨v1, rfl, Vv1, hb_1⟩
 refine ⟨_, _, _, rfl, hs1.call1 hb_1, ?_⟩
 refine al_p (q_move rfl) (al_callS Tryz.call105 (.cons rfl .nil) rfl rfl (fun w2 hs2 => ?_))
 refine (of_big b _ (by omega) (by omega)).mono ?_
 rintro e u2 ⟨v2, rfl, Vv2, hb_2⟩
 refine ⟨_, _, _, rfl, hs2.call1 hb_2, ?_⟩
 refine al_callS Tryz.call106 (.cons rfl (.cons rfl .nil)) rfl rfl (fun w3 hs3 => ?_)
 refine (floor_big a b v1 v2 _ (hs3.big1 (.tail _ (.head _)) Vv1) (hs3.big1 (.head _) Vv2) (by simp only [pw]; omega) (by simp only [pw]; omega) hb).mono ?_
 rintro e u3 ⟨v5, rfl, Vv5, hb_3⟩
 have Vw5 := Vv5.big
 refine ⟨_, _, _, rfl, hs3.call1 hb_3, ?_⟩
 refine al_call Tryz.call103 (.cons rfl .nil) rfl rfl (fun w4 hs4 => ?_)
 refine (int_any (flo a b) v5 _ (hs4.big1 (.head _) Vw5)).mono ?_
 rintro e u4 ⟨rfl, hb_4⟩
 refine ⟨_, rfl, hb_4, ?_⟩
 clear hs4
 refine al_p (q_move rfl) (al_p (q_extract rfl rfl) (al_p (q_extract rfl rfl) (al_p (q_assign rfl) (al_p (q_assign rfl) ?_))))
 refine al_end (aq_then ?_)
 refine ac_seq (ac_region ?_)
 refine al_p (q_move rfl) (al_p (q_assign rfl) (al_end (aq_then ?_)))
 refine ac_ret (ret1 Tryz.results59 rfl (fun w9 hs => ?_))
 refine ⟨?_, hs.below⟩; have q9 := flo_abs (x := a) (y := b) (k := 100000000000000000) h0 h1 (by omega) hb; unfold intL; rw [if_pos (by omega)]
theorem sxb_bl_apiSpan_0_1 (a0 a1 : Value) (ha0 : a0.oneCell' = true) (ha1 : a1.oneCell' = true) : ∀ w, (Instr.build 67 #[(0, a0), (1, a1)]).run Tryz.prog w = .ok (.agg #[a0, a1]) w := by
 have ea0 : a0.cells = #[a0] := cells_one ha0
 have ea1 : a1.cells = #[a1] := cells_one ha1
 intro w; simp [Instr.build, Instr.fill, cells_agg, Tryz.runUnderlying67, Tryz.zeroValue67, Tryz.sizeOf3, ea0, ea1]
set_option maxRecDepth 100000 in
theorem rallowed4_any (lo hi b n : Int) (w : World) (hv : vld lo hi = true) (b0 : -50000000000000000 ≤ b) (b1 : b ≤ 50000000000000000) (n0 : -250000 ≤ n) (n1 : n ≤ 250000) : Calls Tryz.prog 27 #[(.int .i64 b), (.int .i64 n), (.agg #[.int .i64 lo, .int .i64 hi])] w (fun e w' => ∃ x y : Int, e = .returned (.tuple #[.agg #[.int .i64 x, .int .i64 y], .bool (okAl lo hi b n)]) ∧ (okAl lo hi b n = true → x = (allowL lo hi b n).1 ∧ y = (allowL lo hi b n).2) ∧ Below w.heap.size w w') := by
 have hv2 := vld_iff.1 hv
 refine calls_ax (vs := [(.int .i64 b), (.int .i64 n), (.agg #[.int .i64 lo, .int .i64 hi])]) Tryz.func27 rfl rfl ?_
 refine ac_seq (ac_region ?_)
 refine al_new (fun b => .pointer (some ⟨b, 0, none⟩)) (r_box rfl rfl) rfl rfl rfl ?_
 intro b1
 refine al_new (fun b => .pointer (some ⟨b, 0, none⟩)) (r_alloc Tryz.zeroValue67 rfl) rfl rfl rfl ?_
 intro b2
 refine al_p (q_assign rfl) (al_end (aq_then ?_))
 refine ac_seq (ac_region ?_)
 refine al_p (q_build (.cons rfl (.cons rfl .nil)) (sxb_bl_apiSpan_0_1 _ _ rfl rfl)) (al_new (fun b => .pointer (some ⟨b, 0, none⟩)) (r_alloc Tryz.zeroValue67 rfl) rfl rfl rfl ?_)
 intro b3
 refine al_storeAll (i := 0) rfl rfl rfl rfl Tryz.sizeOf67 rfl rfl .k0 rfl (al_end (aq_then ?_))
 refine ac_cutU (β := Int × Int) (fun p => allowL lo hi b n = (p.1, p.2)) (fun p => [(6, (.pointer (some ⟨b2, 0, none⟩))), (7, (.bool false)), (8, (.pointer (some ⟨b3, 0, none⟩)))]) (fun p L9 => L9.set 0 (b3, .cells [.int .i64 p.1, .int .i64 p.2])) (fun X9 hX9 => ?_) (fun p hF9 => ?_)
 ·refine ac_block (ac_seq (aq_perm (List.Perm.swap _ _ _) ?_))
  refine ac_region (al_p (q_move rfl) (al_p (q_eql rfl rfl) (al_p (q_assign rfl) (al_end (aq_then ?_)))))
  refine ac_cond rfl (fun h1 => ?_) (fun h1 => ?_)
  ·have q_h1 := of_decide_eq_true h1
   refine ac_seq (ac_drawK 1 8 rfl (by kernel_rfl) (by kernel_rfl) ?_)
   refine ah_t 0 (fun w9 hs => (hs.tail 1 rfl)) rfl rfl (by kernel_rfl) (q_loadAll (i := 0) rfl rfl Tryz.isAgg67 Tryz.sizeOf67 rfl) (ah_t 1 (fun w9 hs => (hs.tail 1 rfl)) rfl rfl (by kernel_rfl) (q_move rfl) ?_)
   refine ah_t 2 (fun w9 hs => (hs.tail 1 rfl)) rfl rfl (by kernel_rfl) (q_fieldAddr 0 rfl Tryz.runUnderlying67 rfl Tryz.sizeOf3 (by decide) rfl) (ah_t 3 (fun w9 hs => (hs.tail 1 rfl)) rfl rfl (by kernel_rfl) (q_load (i := 1) rfl rfl rfl Tryz.isAgg3) ?_)
   refine ah_t 4 (fun w9 hs => (hs.tail 1 rfl)) rfl rfl (by kernel_rfl) (q_fieldAddr 1 rfl Tryz.runUnderlying67 rfl Tryz.sizeOf3 (by decide) rfl) (ah_t 5 (fun w9 hs => (hs.tail 1 rfl)) rfl rfl (by kernel_rfl) (q_load (i := 1) rfl rfl rfl Tryz.isAgg3) (ah_one 6 rfl (by kernel_rfl) (fun hok1 hcl1 => ?_)))
   refine al_call Tryz.call38 (.cons rfl (.cons rfl (.cons rfl .nil))) rfl rfl (fun w1 hs1 => ?_)
   refine (rwithin4b_any b lo hi _).mono ?_
   rintro e u1 ⟨rfl, rfl⟩
   refine ⟨_, rfl, (Below.refl _ _), ?_⟩
   clear hs1
   refine al_end (ah_back hok1 hcl1 (fun w9 hs => ((hs.fewer 1 rfl).tail 1 rfl)) ?_)
   refine ah_one 7 rfl (by kernel_rfl) (fun hok2 hcl2 => ?_)
   refine al_storeAll (i := 0) rfl rfl rfl rfl Tryz.sizeOf67 rfl rfl .k0 rfl (al_end (ah_back hok2 hcl2 (fun w9 hs => ((hs.fewer 1 rfl).tail 1 rfl)) ?_))
   refine ah_one 8 rfl (by kernel_rfl) (fun hok3 hcl3 => ?_)
   refine al_p (q_assign rfl) (al_end (ah_last (by kernel_rfl) ?_))
   refine aq_then (ac_ret (aq_inR (aq_thenR (retR Tryz.results27 (.agg (i := 0) rfl rfl Tryz.isAgg67 Tryz.sizeOf67 rfl (.tmp rfl .nil)) .two (fun w9 hs => ?_)))))
   rw [q_h1] at *
   refine ⟨0, 1000000, ?_, fun h => ?_, hs.below⟩
   ·rw [okAl, allow_zero hv]; cases wthn b lo hi <;> rfl
   ·rw [okAl, allow_zero hv] at h; rw [allow_zero hv]; cases hw : wthn b lo hi
    ·rw [hw] at h; cases h
    ·exact ⟨rfl, rfl⟩
  ·have q_h1 := of_decide_eq_false h1
   refine ac_seq (ac_region ?_)
   refine al_p (q_move rfl) (al_p (q_gtr rfl rfl) (al_p (q_assign rfl) (al_end (aq_then ?_))))
   refine ac_cond rfl (fun h2 => ?_) (fun h2 => ?_)
   ·have q_h2 := of_decide_eq_true h2
    refine ac_cutU (β := Int) (fun z => z = max 0 (cei (lo - b) n)) (fun z => [(0, (.int .i64 b)), (1, (.int .i64 n)), (5, (.pointer (some ⟨b1, 0, none⟩))), (6, (.pointer (some ⟨b2, 0, none⟩))), (7, (.bool false)), (8, (.pointer (some ⟨b3, 0, none⟩)))]) (fun z L9 => L9.set 1 (b3, .cells [.int .i64 z, .int .i64 1000000])) (fun X9 hX9 => ?_) (fun z hF9 => ?_)
    ·refine ac_seq (ac_region ?_)
     refine al_p (q_fieldAddr 0 rfl Tryz.runUnderlying67 rfl Tryz.sizeOf3 (by decide) rfl) (al_p (q_load (i := 2) rfl rfl rfl Tryz.isAgg3) (al_p (q_move rfl) ?_))
     refine al_p (q_sub rfl rfl (by omega)) (al_p (q_move rfl) (al_call Tryz.call58 (.cons rfl (.cons rfl .nil)) rfl rfl (fun w2 hs2 => ?_)))
     refine (rceil4_any (lo - b) n _ (by omega) (by omega) (by omega) (by omega) (by omega)).mono ?_
     rintro e u2 ⟨rfl, hb_2⟩
     refine ⟨_, rfl, hb_2, ?_⟩
     clear hs2
     refine al_p (q_assign rfl) (al_end (aq_then ?_))
     refine ac_seq (ac_region ?_)
     refine al_p (q_move rfl) ?_
     refine al_p (q_fieldAddr 0 rfl Tryz.runUnderlying67 rfl Tryz.sizeOf3 (by decide) rfl) (al_p (q_load (i := 1) rfl rfl rfl Tryz.isAgg3) (al_p (q_gtr rfl rfl) (al_end (aq_then ?_))))
     refine ac_cond rfl (fun h3 => ?_) (fun h3 => ?_)
     ·have q_h3 := of_decide_eq_true h3
      refine ac_region (al_p (q_move rfl) ?_)
      refine al_p (q_fieldAddr 0 rfl Tryz.runUnderlying67 rfl Tryz.sizeOf3 (by decide) rfl) (al_store1 (i := 1) rfl rfl rfl rfl Tryz.sizeOf3 .k0 .k1 rfl (al_end (aq_then ?_)))
      exact aq_sub (hX9 ((cei (lo - b) n)) ((by omega))) ⟨rfl, rfl, rfl, rfl, rfl, rfl, trivial⟩ (fun w9 hs => (hs.fewer 1 rfl))
     ·have q_h3 := of_decide_eq_false h3
      refine ac_skip (aq_then ?_)
      exact aq_sub (hX9 (0) ((by omega))) ⟨rfl, rfl, rfl, rfl, rfl, rfl, trivial⟩ (fun w9 hs => (hs.fewer 1 rfl))
    ·refine ac_seq (ac_region ?_)
     refine al_p (q_fieldAddr 1 rfl Tryz.runUnderlying67 rfl Tryz.sizeOf3 (by decide) rfl) (al_p (q_load (i := 2) rfl rfl rfl Tryz.isAgg3) (al_p (q_move rfl) ?_))
     refine al_p (q_sub rfl rfl (by omega)) (al_p (q_move rfl) (al_call Tryz.call59 (.cons rfl (.cons rfl .nil)) rfl rfl (fun w3 hs3 => ?_)))
     refine (rfloor4_any (hi - b) n _ (by omega) (by omega) (by omega) (by omega) (by omega)).mono ?_
     rintro e u3 ⟨rfl, hb_3⟩
     refine ⟨_, rfl, hb_3, ?_⟩
     clear hs3
     refine al_p (q_assign rfl) (al_end (aq_then ?_))
     refine ac_seq (ac_region ?_)
     refine al_p (q_move rfl) ?_
     refine al_p (q_fieldAddr 1 rfl Tryz.runUnderlying67 rfl Tryz.sizeOf3 (by decide) rfl) (al_p (q_load (i := 1) rfl rfl rfl Tryz.isAgg3) (al_p (q_lss rfl rfl) (al_end (aq_then ?_))))
     refine ac_cond rfl (fun h4 => ?_) (fun h4 => ?_)
     ·have q_h4 := of_decide_eq_true h4
      refine ac_region (al_p (q_move rfl) ?_)
      refine al_p (q_fieldAddr 1 rfl Tryz.runUnderlying67 rfl Tryz.sizeOf3 (by decide) rfl) (al_store1 (i := 1) rfl rfl rfl rfl Tryz.sizeOf3 .k1 .k1 rfl (al_end (aq_inN (aq_then ?_))))
      exact aq_sub (hX9 (z, (flo (hi - b) n)) ((by unfold allowL possL; first | (rw [if_pos (by omega)]; exact Prod.ext (by simp only; omega) (by simp only; omega)) | (rw [if_neg (by omega), if_pos (by omega)]; exact Prod.ext (by simp only; omega) (by simp only; omega))))) ⟨rfl, rfl, rfl, trivial⟩ (fun w9 hs => ((hs.fewer 1 rfl).perm (List.Perm.swap _ _ _)))
     ·have q_h4 := of_decide_eq_false h4
      refine ac_skip (aq_inN (aq_then ?_))
      exact aq_sub (hX9 (z, 1000000) ((by unfold allowL possL; first | (rw [if_pos (by omega)]; exact Prod.ext (by simp only; omega) (by simp only; omega)) | (rw [if_neg (by omega), if_pos (by omega)]; exact Prod.ext (by simp only; omega) (by simp only; omega))))) ⟨rfl, rfl, rfl, trivial⟩ (fun w9 hs => ((hs.fewer 1 rfl).perm (List.Perm.swap _ _ _)))
   ·have q_h2 := of_decide_eq_false h2
    refine ac_cutU (β := Int) (fun z => z = max 0 (cei (hi - b) n)) (fun z => [(0, (.int .i64 b)), (1, (.int .i64 n)), (5, (.pointer (some ⟨b1, 0, none⟩))), (6, (.pointer (some ⟨b2, 0, none⟩))), (7, (.bool false)), (8, (.pointer (some ⟨b3, 0, none⟩)))]) (fun z L9 => L9.set 1 (b3, .cells [.int .i64 z, .int .i64 1000000])) (fun X9 hX9 => ?_) (fun z hF9 => ?_)
    ·refine ac_seq (ac_region ?_)
     refine al_p (q_fieldAddr 1 rfl Tryz.runUnderlying67 rfl Tryz.sizeOf3 (by decide) rfl) (al_p (q_load (i := 2) rfl rfl rfl Tryz.isAgg3) (al_p (q_move rfl) ?_))
     refine al_p (q_sub rfl rfl (by omega)) (al_p (q_move rfl) (al_call Tryz.call58 (.cons rfl (.cons rfl .nil)) rfl rfl (fun w4 hs4 => ?_)))
     refine (rceil4_any (hi - b) n _ (by omega) (by omega) (by omega) (by omega) (by omega)).mono ?_
     rintro e u4 ⟨rfl, hb_4⟩
     refine ⟨_, rfl, hb_4, ?_⟩
     clear hs4
     refine al_p (q_assign rfl) (al_end (aq_then ?_))
     refine ac_seq (ac_region ?_)
     refine al_p (q_move rfl) ?_
     refine al_p (q_fieldAddr 0 rfl Tryz.runUnderlying67 rfl Tryz.sizeOf3 (by decide) rfl) (al_p (q_load (i := 1) rfl rfl rfl Tryz.isAgg3) (al_p (q_gtr rfl rfl) (al_end (aq_then ?_))))
     refine ac_cond rfl (fun h5 => ?_) (fun h5 => ?_)
     ·have q_h5 := of_decide_eq_true h5
      refine ac_region (al_p (q_move rfl) ?_)
      refine al_p (q_fieldAddr 0 rfl Tryz.runUnderlying67 rfl Tryz.sizeOf3 (by decide) rfl) (al_store1 (i := 1) rfl rfl rfl rfl Tryz.sizeOf3 .k0 .k1 rfl (al_end (aq_then ?_)))
      exact aq_sub (hX9 ((cei (hi - b) n)) ((by omega))) ⟨rfl, rfl, rfl, rfl, rfl, rfl, trivial⟩ (fun w9 hs => (hs.fewer 1 rfl))
     ·have q_h5 := of_decide_eq_false h5
      refine ac_skip (aq_then ?_)
      exact aq_sub (hX9 (0) ((by omega))) ⟨rfl, rfl, rfl, rfl, rfl, rfl, trivial⟩ (fun w9 hs => (hs.fewer 1 rfl))
    ·refine ac_seq (ac_region ?_)
     refine al_p (q_fieldAddr 0 rfl Tryz.runUnderlying67 rfl Tryz.sizeOf3 (by decide) rfl) (al_p (q_load (i := 2) rfl rfl rfl Tryz.isAgg3) (al_p (q_move rfl) ?_))
     refine al_p (q_sub rfl rfl (by omega)) (al_p (q_move rfl) (al_call Tryz.call59 (.cons rfl (.cons rfl .nil)) rfl rfl (fun w5 hs5 => ?_)))
     refine (rfloor4_any (lo - b) n _ (by omega) (by omega) (by omega) (by omega) (by omega)).mono ?_
     rintro e u5 ⟨rfl, hb_5⟩
     refine ⟨_, rfl, hb_5, ?_⟩
     clear hs5
     refine al_p (q_assign rfl) (al_end (aq_then ?_))
     refine ac_seq (ac_region ?_)
     refine al_p (q_move rfl) ?_
     refine al_p (q_fieldAddr 1 rfl Tryz.runUnderlying67 rfl Tryz.sizeOf3 (by decide) rfl) (al_p (q_load (i := 1) rfl rfl rfl Tryz.isAgg3) (al_p (q_lss rfl rfl) (al_end (aq_then ?_))))
     refine aq_keepL [6, 7, 8, 12, 35] (.cons rfl (.cons rfl (.cons rfl (.cons rfl (.cons rfl .nil))))) ?_
     refine ac_cond rfl (fun h6 => ?_) (fun h6 => ?_)
     ·have q_h6 := of_decide_eq_true h6
      refine ac_region (al_p (q_move rfl) ?_)
      refine al_p (q_fieldAddr 1 rfl Tryz.runUnderlying67 rfl Tryz.sizeOf3 (by decide) rfl) (al_store1 (i := 1) rfl rfl rfl rfl Tryz.sizeOf3 .k1 .k1 rfl (al_end (aq_inN (aq_then ?_))))
      exact aq_sub (hX9 (z, (flo (lo - b) n)) ((by unfold allowL possL; first | (rw [if_pos (by omega)]; exact Prod.ext (by simp only; omega) (by simp only; omega)) | (rw [if_neg (by omega), if_pos (by omega)]; exact Prod.ext (by simp only; omega) (by simp only; omega))))) ⟨rfl, rfl, rfl, trivial⟩ (fun w9 hs => ((hs.fewer 1 rfl).perm (List.Perm.swap _ _ _)))
     ·have q_h6 := of_decide_eq_false h6
      refine ac_skip (aq_inN (aq_then ?_))
      exact aq_sub (hX9 (z, 1000000) ((by unfold allowL possL; first | (rw [if_pos (by omega)]; exact Prod.ext (by simp only; omega) (by simp only; omega)) | (rw [if_neg (by omega), if_pos (by omega)]; exact Prod.ext (by simp only; omega) (by simp only; omega))))) ⟨rfl, rfl, rfl, trivial⟩ (fun w9 hs => ((hs.fewer 1 rfl).perm (List.Perm.swap _ _ _)))
 ·have hA := hF9
  refine ac_seq (aq_perm (List.Perm.swap _ _ _) ?_)
  refine ac_drawK 1 7 rfl (by kernel_rfl) (by kernel_rfl) ?_
  refine ah_t 0 (fun w9 hs => (hs.tail 1 rfl)) rfl rfl (by kernel_rfl) (q_loadAll (i := 0) rfl rfl Tryz.isAgg67 Tryz.sizeOf67 rfl) ?_
  refine ah_t 1 (fun w9 hs => (hs.tail 1 rfl)) rfl rfl (by kernel_rfl) (q_fieldAddr 0 rfl Tryz.runUnderlying67 rfl Tryz.sizeOf3 (by decide) rfl) (ah_t 2 (fun w9 hs => (hs.tail 1 rfl)) rfl rfl (by kernel_rfl) (q_load (i := 0) rfl rfl rfl Tryz.isAgg3) ?_)
  refine ah_t 3 (fun w9 hs => (hs.tail 1 rfl)) rfl rfl (by kernel_rfl) (q_fieldAddr 1 rfl Tryz.runUnderlying67 rfl Tryz.sizeOf3 (by decide) rfl) (ah_t 4 (fun w9 hs => (hs.tail 1 rfl)) rfl rfl (by kernel_rfl) (q_load (i := 0) rfl rfl rfl Tryz.isAgg3) (ah_t 5 (fun w9 hs => (hs.tail 1 rfl)) rfl rfl (by kernel_rfl) (q_leq rfl rfl) (ah_one 6 rfl (by kernel_rfl) (fun hok4 hcl4 => ?_))))
  refine al_storeAll (i := 0) rfl rfl rfl rfl Tryz.sizeOf67 rfl rfl .k0 rfl (al_end (ah_back hok4 hcl4 (fun w9 hs => (hs.tail 1 rfl)) ?_))
  refine ah_one 7 rfl (by kernel_rfl) (fun hok5 hcl5 => ?_)
  refine al_p (q_assign rfl) (al_end (ah_last (by kernel_rfl) ?_))
  refine aq_then (ac_ret (retR Tryz.results27 (.agg (i := 0) rfl rfl Tryz.isAgg67 Tryz.sizeOf67 rfl (.tmp rfl .nil)) .two (fun w9 hs => ?_)))
  exact ⟨p.1, p.2, by rw [okAl, hA], fun _ => by rw [hA]; exact ⟨rfl, rfl⟩, hs.below⟩
set_option maxRecDepth 100000 in
theorem rready4_any (R : MachR) (M : MachD) (Q : CurR) (C : CurD) (F : Option Addr) (nf cf : Nat) (zs : List SpanD) (w : World) (hM : IsM w R M) (hC : IsC w Q C) (hF : IsT 2 SpanD.cells w F nf zs) (hn : nf ≤ 1000000000000000) : Calls Tryz.prog 24 #[(.agg (machCells R M)), Q.v, (.slice F nf cf)] w (Ret (.bool (explB M C zs)) w) := by
 refine calls_ax (vs := [(.agg (machCells R M)), Q.v, (.slice F nf cf)]) Tryz.func24 rfl rfl ?_
 refine ac_seq (ac_region ?_)
 refine al_new (fun b => .pointer (some ⟨b, 0, none⟩)) (r_box rfl rfl) rfl rfl rfl ?_
 intro b1
 refine al_new (fun b => .pointer (some ⟨b, 0, none⟩)) (r_box rfl rfl) rfl rfl rfl ?_
 intro b2
 refine al_p (q_assign rfl) (al_end (aq_then ?_))
 refine ac_seq (ac_region ?_)
 refine al_p (q_loadAll (i := 1) rfl rfl Tryz.isAgg29 Tryz.sizeOf29 rfl) (al_p (q_loadAll (i := 0) rfl rfl Tryz.isAgg32 Tryz.sizeOf32 rfl) (al_call Tryz.call37 (.cons rfl (.cons rfl .nil)) rfl rfl (fun w1 hs1 => ?_)))
 refine (rvalid2_any R M Q C _ (hM.below hs1.below) (hC.below hs1.below)).mono ?_
 rintro e u1 ⟨rfl, hb_1⟩
 refine ⟨_, rfl, hb_1, ?_⟩
 clear hs1
 refine al_p (q_move rfl) ?_
 refine aq_split 10 rfl (fun hb1 => ?_) (fun hb1 => ?_)
 ·have q1 : validC M C = true := hb1
  refine al_p (q_loadAll (i := 1) rfl rfl Tryz.isAgg29 Tryz.sizeOf29 rfl) (al_p (q_move rfl) (al_call Tryz.call54 (.cons rfl (.cons rfl .nil)) rfl rfl (fun w2 hs2 => ?_)))
  refine (rvalidReadings_any R M F nf cf zs _ (hM.below hs2.below) (hF.below hs2.below) hn).mono ?_
  rintro e u2 ⟨rfl, hb_2⟩
  refine ⟨_, rfl, hb_2, ?_⟩
  clear hs2
  refine al_p (q_pickT rfl rfl) (al_p (q_assign rfl) (al_end (aq_then ?_)))
  refine ac_ret (ret1 Tryz.results24 rfl (fun w9 hs => ?_))
  refine ⟨?_, hs.below⟩; rw [explB, q1]; rfl
 ·have q1 : validC M C = false := hb1
  refine al_skip rfl rfl rfl (al_skip rfl rfl rfl (al_skip rfl rfl rfl (al_p (q_pickF rfl rfl) (al_p (q_assign rfl) ?_))))
  refine al_end (aq_then ?_)
  refine ac_ret (ret1 Tryz.results24 rfl (fun w9 hs => ?_))
  refine ⟨?_, hs.below⟩; rw [explB, q1]; rfl
end
section
open Go.RowKit
theorem Sta.isC5 {E : Cfg} {U : Snaps} {L : Boxes} {w u : World} {lo : Nat} {Q : CurR} {C : CurD} (h : Sta E U L w) (hu : (lo, u) ∈ U) (hC : IsC u Q C) (ha : ∀ b o, Q.A = some ⟨b, o, none⟩ → lo ≤ b) (hb : ∀ b o, Q.B = some ⟨b, o, none⟩ → lo ≤ b) (hc : ∀ b o, Q.C = some ⟨b, o, none⟩ → lo ≤ b) : IsC w Q C :=
 ⟨h.isT hu hC.coils (fun b o e => Or.inl (ha b o e)), h.isT hu hC.shells (fun b o e => Or.inl (hb b o e)), h.isT hu hC.plasma (fun b o e => Or.inl (hc b o e)), hC.la, hC.lb, hC.lc, hC.ca, hC.cb, hC.cc, hC.ka, hC.kb, hC.kc⟩
theorem row_of {n b : Nat} {D : List Deferred} {w0 w : World} {U : Snaps} {L : Boxes} {i : Nat} {vs : List Value} (h : Sta ⟨n, D, w0, []⟩ U L w) (hi : L[i]? = some (b, .cells vs)) : RowL b vs w :=
 ⟨(h.at i hi).lt, fun k v hk => ((h.at i hi).cell _ rfl k v hk).1, fun k hk => ((h.at i hi).cell _ rfl k _ (List.getElem?_eq_getElem hk)).2⟩
def outB (M : MachD) (C : CurD) (n k : Nat) : List Value := ((bgL M C).take k).map (Value.int .i64) ++ List.replicate (n - k) (.int .i64 0)
theorem outB_set {M : MachD} {C : CurD} {n k : Nat} (hn : M.sensors.length = n) (hk : k < n) : (outB M C n k).set k (.int .i64 (backL M C (k : Int)).1) = outB M C n (k + 1) := by
 have h1 : (bgL M C)[k]? = some (backL M C (k : Int)).1 := bgL_get (by omega)
 have h2 : k < (bgL M C).length := (List.getElem?_eq_some_iff.1 h1).1
 unfold outB
 rw [set_fill _ k n _ _ (by rw [List.length_map, List.length_take]; omega) hk, List.take_add_one, h1, List.map_append]; rfl
theorem outB_len {M : MachD} {C : CurD} {n k : Nat} (hn : M.sensors.length = n) (hk : k ≤ n) : (outB M C n k).length = n := by
 have h2 : (bgL M C).length = n := by simp [bgL, hn]
 unfold outB; rw [List.length_append, List.length_map, List.length_take, List.length_replicate]; omega
def zS2 : List Value := [.int .i64 0, .int .i64 0]
abbrev cmix (M : MachD) (bs : List Int) (zs : List SpanD) (cell : Int) (n k : Nat) : List Value := mixF n k (fun j => SpanD.cells (clF M bs zs cell j)) (fun _ => zS2)
theorem clL_flat (M : MachD) (bs : List Int) (zs : List SpanD) (cell : Int) : (clL M bs zs cell).flatMap SpanD.cells = (List.range M.sensors.length).flatMap fun j => SpanD.cells (clF M bs zs cell j) := by
 unfold clL; rw [List.flatMap_map]
theorem respAt9_any (R : MachR) (M : MachD) (k : Nat) (cell : Int) (w : World) (hM : IsM w R M) (hc : checkC M = 0) (hcell : wthn cell 0 (M.grid.nr * M.grid.nz - 1) = true) (hk : k < M.sensors.length) (hlc : 1 ≤ R.lc) :
  Calls Tryz.prog 65 #[.agg (machCells R M), .int .i64 (k : Int), .agg #[.int .i64 (cellL M cell).1, .int .i64 (cellL M cell).2.1]] w (Ret (.int .i64 (respL M (k : Int) cell).1) w) := by
 have hx : M.sensors[k]? = some M.sensors[k] := List.getElem?_eq_getElem hk
 have h := respAt_any R M k _ (cellL M cell).1 (cellL M cell).2.1 w hM hx hlc
 have e : cellL M cell = (cellR M.grid cell, cellZ M.grid cell, 0) := by unfold cellL; rw [if_pos hc, if_pos hcell]
 have e2 : (respL M (k : Int) cell).1 = (exactL (aloneM M M.sensors[k] (cellL M cell).1 (cellL M cell).2.1) oneC4 0).1 := by
  unfold respL
  rw [if_pos (by rw [e]), if_pos (wthn_iff.2 (by omega)), Int.toNat_natCast, hx]
 rw [e2]; exact h
set_option maxRecDepth 100000 in
theorem background9_any (R : MachR) (M : MachD) (Q : CurR) (C : CurD) (s : Int) (w : World) (hM : IsM w R M) (hC : IsC w Q C) (i0 : -9223372036854775808 ≤ s) (i1 : s ≤ 9223372036854775807) : Calls Tryz.prog 66 #[(.agg (machCells R M)), Q.v, (.int .i64 s)] w (Ret (.tuple #[.int .i64 (backL M C s).1, .int .i64 (backL M C s).2]) w) := by
 refine calls_ax (vs := [(.agg (machCells R M)), Q.v, (.int .i64 s)]) Tryz.func66 rfl rfl ?_
 refine ac_seq (ac_region ?_)
 refine al_new (fun b => .pointer (some ⟨b, 0, none⟩)) (r_box rfl rfl) rfl rfl rfl ?_
 intro b1
 refine al_new (fun b => .pointer (some ⟨b, 0, none⟩)) (r_box rfl rfl) rfl rfl rfl ?_
 intro b2
 refine al_p (q_assign rfl) (al_p (q_assign rfl) (al_end (aq_then ?_)))
 refine ac_seq (ac_seq (ac_region ?_))
 refine al_p (q_loadAll (i := 1) rfl rfl Tryz.isAgg29 Tryz.sizeOf29 rfl) (al_p (q_loadAll (i := 0) rfl rfl Tryz.isAgg32 Tryz.sizeOf32 rfl) (al_call Tryz.call40 (.cons rfl (.cons rfl .nil)) rfl rfl (fun w1 hs1 => ?_)))
 refine (validCurrents_any R M Q C _ (hM.below hs1.below) (hC.below hs1.below)).mono ?_
 rintro e u1 ⟨rfl, hb_1⟩
 refine ⟨_, rfl, hb_1, ?_⟩
 clear hs1
 refine al_p (q_not rfl) (al_end (aq_then ?_))
 refine ac_cond rfl (fun h1 => ?_) (fun h1 => ?_)
 ·have hvc : validC M C = false := by simpa using h1
  refine ac_seq (ac_region ?_)
  refine al_p (q_assign rfl) (al_p (q_assign rfl) (al_end (aq_then ?_)))
  refine ac_ret (aq_thenR (ret2 Tryz.results66 rfl rfl (fun w9 hs => ?_)))
  refine ⟨?_, hs.below⟩; unfold backL; rw [if_neg (by rw [hvc]; decide)]
 ·have hvc : validC M C = true := by simpa using h1
  have hv := fit2_iff.1 hvc
  have hs0 := sound_of hv.check
  have hg := cells_fine hs0.grid
  have hsc := hs0.coils.1
  have hss := hs0.shells.1
  have hca := hv.coils.1
  have hcb := hv.shells.1
  have hcp := hv.plasma.1
  have qa := hC.coils.1
  have qb := hC.shells.1
  have qc := hC.plasma.1
  refine ac_skip (aq_then (ac_seq (ac_draw 8 (by kernel_rfl) (by kernel_rfl) ?_)))
  refine ah_t 0 (fun w9 hs => hs) rfl rfl (by kernel_rfl) (q_loadAll (i := 1) rfl rfl Tryz.isAgg29 Tryz.sizeOf29 rfl) (ah_t 1 (fun w9 hs => hs) rfl rfl (by kernel_rfl) (q_loadAll (i := 0) rfl rfl Tryz.isAgg32 Tryz.sizeOf32 rfl) (ah_t 3 (fun w9 hs => hs) rfl rfl (by kernel_rfl) (q_move rfl) (ah_one 2 rfl (by kernel_rfl) (fun hok1 hcl1 => ?_))))
  refine al_call Tryz.call108 (.cons rfl .nil) rfl rfl (fun w2 hs2 => ?_)
  refine (dark_any Q.A Q.B Q.C Q.la Q.ca Q.lb Q.cb Q.lc Q.cc C.coils C.shells _ (hC.coils.below hs2.below) (hC.shells.below hs2.below) (by omega) (by omega) (by omega)).mono ?_
  rintro e u2 ⟨dA, da, dB, db, dp, rfl, DK, hb_2⟩
  refine ⟨_, rfl, hb_2, ?_⟩
  clear hs2
  refine al_end (ah_back hok1 hcl1 (fun w9 hs => (hs.fewer 1 rfl)) ?_)
  refine ah_one 4 rfl (by kernel_rfl) (fun hok2 hcl2 => ?_)
  refine al_call Tryz.call42 (.cons rfl (.cons rfl (.cons rfl .nil))) rfl rfl (fun w3 hs3 => ?_)
  have hdk : IsC w3 ⟨dA, dB, some ⟨dp, 0, none⟩, Q.la, da, Q.lb, db, Q.lc, Q.lc⟩ (darkD C) := hs3.isC5 (.head _) (by have h9 := dark_isC DK (by omega) (by omega) (by omega); unfold darkD; rw [hC.plasma.1]; exact h9) (fun b o e => by have := DK.coils.new _ e; exact this) (fun b o e => by have := DK.shells.new _ e; exact this) (fun b o e => by cases e; exact DK.base)
  refine (exact9_any R M ⟨dA, dB, some ⟨dp, 0, none⟩, Q.la, da, Q.lb, db, Q.lc, Q.lc⟩ (darkD C) s _ (hM.below hs3.below) hdk i0 i1).mono ?_
  rintro e u3 ⟨rfl, hb_3⟩
  refine ⟨_, rfl, hb_3, ?_⟩
  clear hs3
  refine al_end (ah_back hok2 hcl2 (fun w9 hs => (hs.fewer 2 rfl)) ?_)
  refine ah_t 5 (fun w9 hs => (hs.fewer 2 rfl)) rfl rfl (by kernel_rfl) (q_extract rfl rfl) (ah_t 6 (fun w9 hs => (hs.fewer 2 rfl)) rfl rfl (by kernel_rfl) (q_extract rfl rfl) (ah_t 7 (fun w9 hs => (hs.fewer 2 rfl)) rfl rfl (by kernel_rfl) (q_assign rfl) (ah_t 8 (fun w9 hs => (hs.fewer 2 rfl)) rfl rfl (by kernel_rfl) (q_assign rfl) (ah_done (by kernel_rfl) ?_))))
  refine aq_then (ac_ret (ret2 Tryz.results66 rfl rfl (fun w9 hs => ?_)))
  refine ⟨?_, hs.below⟩; unfold backL; rw [if_pos hvc]
set_option maxRecDepth 100000 in
theorem backgrounds9_any (R : MachR) (M : MachD) (Q : CurR) (C : CurD) (w : World) (hM : IsM w R M) (hC : IsC w Q C) (hl : R.ld ≤ 1000) : Calls Tryz.prog 35 #[(.agg (machCells R M)), Q.v] w (MadeAt R.ld ((bgL M C).map (Value.int .i64)) w) := by
 have hld := hM.sensors.1
 refine calls_ax (vs := [(.agg (machCells R M)), Q.v]) Tryz.func35 rfl rfl ?_
 refine ac_seq (ac_region ?_)
 refine al_new (fun b => .pointer (some ⟨b, 0, none⟩)) (r_box rfl rfl) rfl rfl rfl ?_
 intro b1
 refine al_new (fun b => .pointer (some ⟨b, 0, none⟩)) (r_box rfl rfl) rfl rfl rfl ?_
 intro b2
 refine al_p (q_assign rfl) (al_end (aq_then ?_))
 refine ac_seq (ac_region ?_)
 refine al_p (q_fieldAddr 9 rfl Tryz.runUnderlying29 rfl Tryz.sizeOf27 (by decide) rfl) (al_p (q_load (i := 1) rfl rfl rfl Tryz.isAgg27) (al_p (q_lenS rfl Tryz.runUnderlying27) ?_))
 refine al_makeInts (n := R.ld) (z := (.int .i64 0)) (bytes := 8) rfl rfl rfl Tryz.underlying30 (by kernel_rfl) rfl (by omega) (by decide) rfl rfl ?_
 intro b3
 refine al_p (q_assign rfl) (al_end (aq_then ?_))
 refine ac_seq (ac_seq (ac_region ?_))
 refine al_p (q_move rfl) (al_p (q_lenS rfl Tryz.runUnderlying30) (al_p (q_move rfl) (al_end (aq_then ?_))))
 refine ac_block ?_
 refine ac_loop (β := Nat) (fun k => k ≤ R.ld) (fun k => [(2, (.pointer (some ⟨b1, 0, none⟩))), (3, (.pointer (some ⟨b2, 0, none⟩))), (4, (.slice none 0 0)), (5, (.slice (some ⟨b3, 0, none⟩) (R.ld) (R.ld))), (12, (.int .i64 ((R.ld) : Int))), (13, (.int .i64 (k : Int)))]) (fun _ => _) (fun k => [(b3, .cells (outB M C R.ld k)), (b2, _), (b1, _)]) (fun k => R.ld - k) 0 (by omega) ⟨rfl, rfl, rfl, rfl, rfl, rfl, trivial⟩ (fun w9 hs => (by rw [show outB M C R.ld 0 = List.replicate R.ld (.int .i64 0) from by simp [outB]]; exact hs)) (fun k hF1 => ?_)
 refine ac_seq (ac_region ?_)
 refine al_p (q_lss rfl rfl) (al_end (aq_then ?_))
 refine ac_seq ?_
 refine ac_cond rfl (fun h1 => ?_) (fun h1 => ?_)
 ·have hkl : k < R.ld := by have := of_decide_eq_true h1; omega
  refine ac_skip (aq_then (ac_seq (ac_block (ac_seq (ac_region ?_)))))
  refine al_p (q_move rfl) (al_p (q_assign rfl) (al_end (aq_then ?_)))
  refine ac_region (al_p (q_move rfl) (al_p (q_move rfl) (al_p (q_loadAll (i := 2) rfl rfl Tryz.isAgg29 Tryz.sizeOf29 rfl) (al_p (q_loadAll (i := 1) rfl rfl Tryz.isAgg32 Tryz.sizeOf32 rfl) ?_))))
  refine al_p (q_move rfl) (al_call Tryz.call66 (.cons rfl (.cons rfl (.cons rfl .nil))) rfl rfl (fun w1 hs1 => ?_))
  refine (background9_any R M Q C (k : Int) _ (hM.below hs1.below) (hC.below hs1.below) (by omega) (by omega)).mono ?_
  rintro e u1 ⟨rfl, hb_1⟩
  refine ⟨_, rfl, hb_1, ?_⟩
  clear hs1
  refine al_p (q_move rfl) (al_p (q_extract rfl rfl) (al_p (q_extract rfl rfl) ?_))
  refine al_p (q_indexAddr (i := k) (k) rfl rfl rfl hkl Tryz.runUnderlying30 Tryz.sizeOf3 (by omega)) ?_
  refine al_store1 (i := 0) rfl rfl rfl rfl Tryz.sizeOf3 (SetAt.ofSet (by rw [outB_len hld (by omega)]; exact hkl)) .k0 rfl (al_end (aq_inN (aq_then (ac_region ?_))))
  refine al_p (q_add rfl rfl (by omega)) (al_p (q_move rfl) (al_end (aq_then ?_)))
  skip
  refine aq_round (k + 1) (by omega) (by omega) ⟨rfl, rfl, rfl, rfl, rfl, rfl, trivial⟩ (fun w9 hs => (by have h9 := (hs.fewer 1 rfl); rw [outB_set hld hkl] at h9; exact h9))
 ·have hke : k = R.ld := by have := of_decide_eq_false h1; omega
  refine ac_exit (aq_thenE (aq_thenE (aq_hit (aq_then ?_))))
  refine ac_seq (ac_region ?_)
  refine al_p (q_move rfl) (al_p (q_assign rfl) (al_end (aq_then ?_)))
  refine ac_ret (ret1 Tryz.results35 rfl (fun w9 hs => ?_))
  refine ⟨b3, rfl, hs.new 0 rfl _ _ rfl, ?_, hs.below⟩
  have h9 := row_of (i := 0) hs rfl
  rw [hke, show outB M C R.ld R.ld = (bgL M C).map (Value.int .i64) from by unfold outB; rw [List.take_of_length_le (by simp [bgL, hld]), Nat.sub_self]; simp] at h9
  exact h9
set_option maxRecDepth 100000 in
theorem allowed9_any (lo hi b n : Int) (w : World) (l0 : -1000000000000000 ≤ lo) (l1 : lo ≤ 1000000000000000) (h0 : -1000000000000000 ≤ hi) (h1 : hi ≤ 1000000000000000) (b0 : -50000000000000000 ≤ b) (b1 : b ≤ 50000000000000000) (n0 : -250000 ≤ n) (n1 : n ≤ 250000) : Calls Tryz.prog 64 #[(.agg #[.int .i64 lo, .int .i64 hi]), (.int .i64 b), (.int .i64 n)] w (Ret (Sp (allowL lo hi b n).1 (allowL lo hi b n).2) w) := by
 refine calls_ax (vs := [(.agg #[.int .i64 lo, .int .i64 hi]), (.int .i64 b), (.int .i64 n)]) Tryz.func64 rfl rfl ?_
 refine ac_seq (ac_region ?_)
 refine al_new (fun b => .pointer (some ⟨b, 0, none⟩)) (r_box rfl rfl) rfl rfl rfl ?_
 intro b1
 refine al_new (fun b => .pointer (some ⟨b, 0, none⟩)) (r_alloc Tryz.zeroValue67 rfl) rfl rfl rfl ?_
 intro b2
 refine al_end (aq_then ?_)
 refine ac_seq (ac_draw 9 (by kernel_rfl) (by kernel_rfl) ?_)
 refine ah_t 0 (fun w9 hs => hs) rfl rfl (by kernel_rfl) (q_fieldAddr 0 rfl Tryz.runUnderlying67 rfl Tryz.sizeOf3 (by decide) rfl) (ah_t 1 (fun w9 hs => hs) rfl rfl (by kernel_rfl) (q_load (i := 1) rfl rfl rfl Tryz.isAgg3) (ah_t 2 (fun w9 hs => hs) rfl rfl (by kernel_rfl) (q_move rfl) ?_))
 refine ah_t 3 (fun w9 hs => hs) rfl rfl (by kernel_rfl) (q_sub rfl rfl (by omega)) ?_
 refine ah_t 4 (fun w9 hs => hs) rfl rfl (by kernel_rfl) (q_fieldAddr 1 rfl Tryz.runUnderlying67 rfl Tryz.sizeOf3 (by decide) rfl) (ah_t 5 (fun w9 hs => hs) rfl rfl (by kernel_rfl) (q_load (i := 1) rfl rfl rfl Tryz.isAgg3) (ah_t 6 (fun w9 hs => hs) rfl rfl (by kernel_rfl) (q_move rfl) ?_))
 refine ah_t 7 (fun w9 hs => hs) rfl rfl (by kernel_rfl) (q_sub rfl rfl (by omega)) (ah_t 8 (fun w9 hs => hs) rfl rfl (by kernel_rfl) (q_assign rfl) (ah_t 9 (fun w9 hs => hs) rfl rfl (by kernel_rfl) (q_assign rfl) (ah_done (by kernel_rfl) ?_)))
 refine aq_then (ac_seq (ac_block (ac_seq (ac_region ?_))))
 refine al_p (q_move rfl) (al_p (q_gtr rfl rfl) (al_p (q_assign rfl) (al_end (aq_then ?_))))
 refine ac_cond rfl (fun h1 => ?_) (fun h1 => ?_)
 ·have q1 := of_decide_eq_true h1
  refine ac_seq (ac_region ?_)
  refine al_p (q_move rfl) (al_p (q_move rfl) (al_call Tryz.call84 (.cons rfl (.cons rfl .nil)) rfl rfl (fun w1 hs1 => ?_)))
  refine (up_any (lo - b) n _ (by omega) (by omega) (by omega) (by omega) (by omega)).mono ?_
  rintro e u1 ⟨rfl, rfl⟩
  refine ⟨_, rfl, (Below.refl _ _), ?_⟩
  clear hs1
  refine al_p (q_move rfl) (al_p (q_move rfl) (al_call Tryz.call83 (.cons rfl (.cons rfl .nil)) rfl rfl (fun w2 hs2 => ?_)))
  refine (down_any (hi - b) n _ (by omega) (by omega) (by omega) (by omega) (by omega)).mono ?_
  rintro e u2 ⟨rfl, rfl⟩
  refine ⟨_, rfl, (Below.refl _ _), ?_⟩
  clear hs2
  refine al_call Tryz.call82 (.cons rfl (.cons rfl .nil)) rfl rfl (fun w3 hs3 => ?_)
  refine (possible_any (cei (lo - b) n) (flo (hi - b) n) _).mono ?_
  rintro e u3 ⟨rfl, hb_3⟩
  refine ⟨_, rfl, hb_3, ?_⟩
  clear hs3
  refine al_storeAll (i := 0) rfl rfl rfl rfl Tryz.sizeOf67 rfl rfl .k0 rfl (al_end (aq_then ?_))
  refine ac_ret (aq_inR (aq_thenR (retR Tryz.results64 (.agg (i := 0) rfl rfl Tryz.isAgg67 Tryz.sizeOf67 rfl .nil) .one (fun w9 hs => ?_))))
  refine ⟨?_, hs.below⟩; unfold allowL; rw [if_pos (by omega)]
 ·have q1 := of_decide_eq_false h1
  refine ac_seq (ac_region ?_)
  refine al_p (q_move rfl) (al_p (q_lss rfl rfl) (al_p (q_assign rfl) (al_end (aq_then ?_))))
  refine ac_cond rfl (fun h2 => ?_) (fun h2 => ?_)
  ·have q2 := of_decide_eq_true h2
   refine ac_seq (ac_region ?_)
   refine al_p (q_move rfl) (al_p (q_move rfl) (al_call Tryz.call84 (.cons rfl (.cons rfl .nil)) rfl rfl (fun w4 hs4 => ?_)))
   refine (up_any (hi - b) n _ (by omega) (by omega) (by omega) (by omega) (by omega)).mono ?_
   rintro e u4 ⟨rfl, rfl⟩
   refine ⟨_, rfl, (Below.refl _ _), ?_⟩
   clear hs4
   refine al_p (q_move rfl) (al_p (q_move rfl) (al_call Tryz.call83 (.cons rfl (.cons rfl .nil)) rfl rfl (fun w5 hs5 => ?_)))
   refine (down_any (lo - b) n _ (by omega) (by omega) (by omega) (by omega) (by omega)).mono ?_
   rintro e u5 ⟨rfl, rfl⟩
   refine ⟨_, rfl, (Below.refl _ _), ?_⟩
   clear hs5
   refine al_call Tryz.call82 (.cons rfl (.cons rfl .nil)) rfl rfl (fun w6 hs6 => ?_)
   refine (possible_any (cei (hi - b) n) (flo (lo - b) n) _).mono ?_
   rintro e u6 ⟨rfl, hb_6⟩
   refine ⟨_, rfl, hb_6, ?_⟩
   clear hs6
   refine al_storeAll (i := 0) rfl rfl rfl rfl Tryz.sizeOf67 rfl rfl .k0 rfl (al_end (aq_then ?_))
   refine ac_ret (aq_inR (aq_thenR (retR Tryz.results64 (.agg (i := 0) rfl rfl Tryz.isAgg67 Tryz.sizeOf67 rfl .nil) .one (fun w9 hs => ?_))))
   refine ⟨?_, hs.below⟩; unfold allowL; rw [if_neg (by omega), if_pos (by omega)]
  ·have q2 := of_decide_eq_false h2
   refine ac_seq (ac_region ?_)
   refine al_p (q_loadAll (i := 1) rfl rfl Tryz.isAgg67 Tryz.sizeOf67 rfl) (al_p (q_move rfl) (al_call Tryz.call68 (.cons rfl (.cons rfl .nil)) rfl rfl (fun w7 hs7 => ?_)))
   refine (contains_any lo hi b _).mono ?_
   rintro e u7 ⟨rfl, hb_7⟩
   refine ⟨_, rfl, hb_7, ?_⟩
   clear hs7
   refine al_p (q_assign rfl) (al_end (aq_then ?_))
   refine ac_cond rfl (fun h3 => ?_) (fun h3 => ?_)
   ·have q3 := h3
    refine ac_seq (ac_region ?_)
    refine al_call Tryz.call82 (.cons rfl (.cons rfl .nil)) rfl rfl (fun w8 hs8 => ?_)
    refine (possible_any 0 1000000 _).mono ?_
    rintro e u8 ⟨rfl, hb_8⟩
    refine ⟨_, rfl, hb_8, ?_⟩
    clear hs8
    refine al_storeAll (i := 0) rfl rfl rfl rfl Tryz.sizeOf67 rfl rfl .k0 rfl (al_end (aq_then ?_))
    refine ac_ret (aq_inR (aq_thenR (retR Tryz.results64 (.agg (i := 0) rfl rfl Tryz.isAgg67 Tryz.sizeOf67 rfl .nil) .one (fun w9 hs => ?_))))
    refine ⟨?_, hs.below⟩; unfold allowL; rw [if_neg (by omega), if_neg (by omega), if_pos q3]
   ·have q3 := h3
    refine ac_skip (aq_inN (aq_then (ac_seq (ac_region ?_))))
    refine al_call Tryz.call82 (.cons rfl (.cons rfl .nil)) rfl rfl (fun w9 hs9 => ?_)
    refine (possible_any 1 0 _).mono ?_
    rintro e u9 ⟨rfl, hb_9⟩
    refine ⟨_, rfl, hb_9, ?_⟩
    clear hs9
    refine al_storeAll (i := 0) rfl rfl rfl rfl Tryz.sizeOf67 rfl rfl .k0 rfl (al_end (aq_then ?_))
    refine ac_ret (retR Tryz.results64 (.agg (i := 0) rfl rfl Tryz.isAgg67 Tryz.sizeOf67 rfl .nil) .one (fun w9 hs => ?_))
    refine ⟨?_, hs.below⟩; unfold allowL; rw [if_neg (by omega), if_neg (by omega), if_neg (by rw [q3]; decide)]
set_option maxRecDepth 100000 in
theorem claimsIn9_any (R : MachR) (M : MachD) (P F : Option Addr) (np cp nf cf : Nat) (bs : List Int) (zs : List SpanD) (cell : Int) (w : World) (hM : IsM w R M) (hB : IsT 1 intCells w P np bs) (hF : IsT 2 SpanD.cells w F nf zs) (hc : checkC M = 0) (hcell : wthn cell 0 (M.grid.nr * M.grid.nz - 1) = true) (hnb : np = R.ld) (hnf : nf = R.ld) (hbs : ∀ b ∈ bs, -50000000000000000 ≤ b ∧ b ≤ 50000000000000000) (hzs : ∀ s ∈ zs, vld s.lo s.hi = true) : Calls Tryz.prog 34 #[(.agg (machCells R M)), (.slice P np cp), (.slice F nf cf), (.int .i64 cell)] w (MadeAt R.ld ((clL M bs zs cell).flatMap SpanD.cells) w) := by
 have hl := hM.sensors.1
 have hb1 := hB.1
 have hf1 := hF.1
 have hld : R.ld ≤ 1000 := by have := (sound_of hc).sensors.1; omega
 have hlc : 1 ≤ R.lc := by have := hM.limits.1; have := limits_pos hc; omega
 refine calls_ax (vs := [(.agg (machCells R M)), (.slice P np cp), (.slice F nf cf), (.int .i64 cell)]) Tryz.func34 rfl rfl ?_
 refine ac_seq (ac_region ?_)
 refine al_new (fun b => .pointer (some ⟨b, 0, none⟩)) (r_box rfl rfl) rfl rfl rfl ?_
 intro b1
 refine al_p (q_assign rfl) (al_end (aq_then ?_))
 refine ac_seq (ac_region ?_)
 refine al_p (q_loadAll (i := 0) rfl rfl Tryz.isAgg29 Tryz.sizeOf29 rfl) (al_p (q_move rfl) (al_call Tryz.call63 (.cons rfl (.cons rfl .nil)) rfl rfl (fun w1 hs1 => ?_)))
 refine (mcell9_any R M cell _ (hM.below hs1.below)).mono ?_
 rintro e u1 ⟨rfl, hb_1⟩
 refine ⟨_, rfl, hb_1, ?_⟩
 clear hs1
 refine al_p (q_move rfl) (al_p (q_extract rfl rfl) (al_p (q_extract rfl rfl) (al_new (fun b => .pointer (some ⟨b, 0, none⟩)) (r_alloc Tryz.zeroValue76 rfl) rfl rfl rfl ?_)))
 intro b2
 refine al_storeAll (i := 0) rfl rfl rfl rfl Tryz.sizeOf76 rfl rfl .k0 rfl (al_p (q_assign rfl) (al_end (aq_then ?_)))
 refine ac_seq (ac_region ?_)
 refine al_p (q_fieldAddr 9 rfl Tryz.runUnderlying29 rfl Tryz.sizeOf27 (by decide) rfl) (al_p (q_load (i := 1) rfl rfl rfl Tryz.isAgg27) (al_p (q_lenS rfl Tryz.runUnderlying27) ?_))
 refine al_makeAgg (n := R.ld) (bytes := 16) (zv := (.agg #[.int .i64 0, .int .i64 0])) [(.int .i64 0), (.int .i64 0)] rfl rfl rfl Tryz.underlying81 (by kernel_rfl) rfl rfl rfl (by omega) (by decide) rfl rfl ?_
 intro b3
 refine al_p (q_assign rfl) (al_end (aq_then ?_))
 refine ac_seq (ac_seq (ac_region ?_))
 refine al_p (q_move rfl) (al_p (q_lenS rfl Tryz.runUnderlying81) (al_p (q_move rfl) (al_end (aq_then ?_))))
 refine ac_block ?_
 refine ac_loop (β := Nat) (fun k => k ≤ R.ld) (fun k => [(1, (.slice P np cp)), (2, (.slice F nf cf)), (4, (.pointer (some ⟨b1, 0, none⟩))), (8, (.slice none 0 0)), (9, (.pointer (some ⟨b2, 0, none⟩))), (11, (.slice (some ⟨b3, 0, none⟩) (R.ld) (R.ld))), (24, (.int .i64 ((R.ld) : Int))), (25, (.int .i64 (k : Int)))]) (fun _ => _) (fun k => [(b3, .cells (cmix M bs zs cell R.ld k)), (b2, _), (b1, _)]) (fun k => R.ld - k) 0 (by omega) ⟨rfl, rfl, rfl, rfl, rfl, rfl, rfl, rfl, trivial⟩ (fun w9 hs => (by rw [show cmix M bs zs cell R.ld 0 = (List.range R.ld).flatMap (fun _ => zS2) from mixF_zero _ _ _]; exact hs)) (fun k hF1 => ?_)
 refine ac_seq (ac_region ?_)
 refine al_p (q_lss rfl rfl) (al_end (aq_then ?_))
 refine ac_seq ?_
 refine ac_cond rfl (fun h1 => ?_) (fun h1 => ?_)
 ·have hkl : k < R.ld := by have := of_decide_eq_true h1; omega
  obtain ⟨b11, o11, hA1, hlt1, hget1⟩ := hB.2 (by omega)
  have hx1 := getD_get (l := bs) (d := 0) (k := k) (by omega)
  obtain ⟨b21, o21, hA2, hlt2, hget2⟩ := hF.2 (by omega)
  have hx2 := getD_get (l := zs) (d := ⟨0, 0⟩) (k := k) (by omega)
  have hb9 := hbs _ (List.mem_of_getElem? hx1)
  have hv9 := vld_iff.1 (hzs _ (List.mem_of_getElem? hx2))
  refine ac_skip (aq_then (ac_seq (ac_block (ac_seq (ac_region ?_)))))
  refine al_p (q_move rfl) (al_p (q_assign rfl) (al_end (aq_then ?_)))
  refine ac_draw 16 (by kernel_rfl) (by kernel_rfl) ?_
  refine ah_t 0 (fun w9 hs => hs) rfl rfl (by kernel_rfl) (q_move rfl) (ah_t 1 (fun w9 hs => hs) rfl rfl (by kernel_rfl) (q_move rfl) (ah_t 2 (fun w9 hs => hs) rfl rfl (by kernel_rfl) (q_move rfl) (ah_t 3 (fun w9 hs => hs) rfl rfl (by kernel_rfl) (q_move rfl) ?_)))
  refine ah_t 4 (fun w9 hs => hs) rfl rfl (by kernel_rfl) (q_indexAddrA (i := k) (o21 + k * 2 + 0) hA2 rfl rfl rfl (by omega) Tryz.runUnderlying33 Tryz.sizeOf67 rfl) (ah_t 5 (fun w9 hs => hs) rfl rfl (by kernel_rfl) (q_loadXs (SpanD.cells (zs.getD k ⟨0, 0⟩)) rfl Tryz.isAgg67 Tryz.sizeOf67 (fun w9 hs j9 v9 h9 => by rw [addr_add]; exact (hs.below.cell (p := ⟨_, _, none⟩) hlt2).trans ((hget2 k _ hx2) j9 v9 h9)) rfl) (ah_t 6 (fun w9 hs => hs) rfl rfl (by kernel_rfl) (q_move rfl) (ah_t 7 (fun w9 hs => hs) rfl rfl (by kernel_rfl) (q_move rfl) ?_)))
  refine ah_t 8 (fun w9 hs => hs) rfl rfl (by kernel_rfl) (q_indexAddrA (i := k) (o11 + k * 1 + 0) hA1 rfl rfl rfl (by omega) Tryz.runUnderlying30 Tryz.sizeOf3 rfl) (ah_t 9 (fun w9 hs => hs) rfl rfl (by kernel_rfl) (q_loadX rfl Tryz.isAgg3 (fun w9 hs => (hs.below.cell (p := ⟨_, _, none⟩) hlt1).trans ((hget1 k _ hx1) 0 _ rfl))) (ah_t 10 (fun w9 hs => hs) rfl rfl (by kernel_rfl) (q_loadAll (i := 2) rfl rfl Tryz.isAgg29 Tryz.sizeOf29 rfl) (ah_t 11 (fun w9 hs => hs) rfl rfl (by kernel_rfl) (q_move rfl) (ah_t 12 (fun w9 hs => hs) rfl rfl (by kernel_rfl) (q_loadAll (i := 1) rfl rfl Tryz.isAgg76 Tryz.sizeOf76 rfl) ?_))))
  refine ah_one 13 rfl (by kernel_rfl) (fun hok1 hcl1 => ?_)
  refine al_call Tryz.call65 (.cons rfl (.cons rfl (.cons rfl .nil))) rfl rfl (fun w2 hs2 => ?_)
  refine (respAt9_any R M k cell _ (hM.below hs2.below) hc hcell (by omega) hlc).mono ?_
  rintro e u2 ⟨rfl, hb_2⟩
  refine ⟨_, rfl, hb_2, ?_⟩
  clear hs2
  refine al_end (ah_back hok1 hcl1 (fun w9 hs => (hs.fewer 1 rfl)) ?_)
  refine ah_one 14 rfl (by kernel_rfl) (fun hok2 hcl2 => ?_)
  refine al_call Tryz.call64 (.cons rfl (.cons rfl (.cons rfl .nil))) rfl rfl (fun w3 hs3 => ?_)
  refine (allowed9_any (zs.getD k ⟨0, 0⟩).lo (zs.getD k ⟨0, 0⟩).hi (bs.getD k 0) (respL M (k : Int) cell).1 _ hv9.2.1 (by omega) (by omega) hv9.2.2 hb9.1 hb9.2 (respL_bd M _ _).1 (respL_bd M _ _).2).mono ?_
  rintro e u3 ⟨rfl, hb_3⟩
  refine ⟨_, rfl, hb_3, ?_⟩
  clear hs3
  refine al_end (ah_back hok2 hcl2 (fun w9 hs => (hs.fewer 2 rfl)) ?_)
  refine ah_t 15 (fun w9 hs => (hs.fewer 2 rfl)) rfl rfl (by kernel_rfl) (q_indexAddr (i := k) (0 + k * 2) rfl rfl rfl (by omega) Tryz.runUnderlying81 Tryz.sizeOf67 rfl) (ah_one 16 rfl (by kernel_rfl) (fun hok3 hcl3 => ?_))
  refine al_storeV (i := 0) (cs' := (cmix M bs zs cell R.ld (k + 1))) (vs := (SpanD.cells (clF M bs zs cell k))) rfl rfl rfl Tryz.sizeOf67 rfl (by rw [mixF_len (z := 2) (fun _ => rfl) (fun _ => rfl)]; omega) rfl (by have h := mixF_store (n := R.ld) (k := k) (z := 2) (F := fun j => SpanD.cells (clF M bs zs cell j)) (G := fun _ => zS2) (fun _ => rfl) (fun _ => rfl) hkl; rw [Nat.zero_add]; exact h) .k0 rfl ?_
  refine al_end (ah_last (by kernel_rfl) ?_)
  refine aq_inN (aq_then (ac_region ?_))
  refine al_p (q_add rfl rfl (by omega)) (al_p (q_move rfl) (al_end (aq_then ?_)))
  skip
  refine aq_round (k + 1) (by omega) (by omega) ⟨rfl, rfl, rfl, rfl, rfl, rfl, rfl, rfl, trivial⟩ (fun w9 hs => (hs.fewer 2 rfl))
 ·have hke : k = R.ld := by have := of_decide_eq_false h1; omega
  refine ac_exit (aq_thenE (aq_thenE (aq_hit (aq_then ?_))))
  refine ac_seq (ac_region ?_)
  refine al_p (q_move rfl) (al_p (q_assign rfl) (al_end (aq_then ?_)))
  refine ac_ret (ret1 Tryz.results34 rfl (fun w9 hs => ?_))
  refine ⟨b3, rfl, hs.new 0 rfl _ _ rfl, ?_, hs.below⟩
  have h9 := row_of (i := 0) hs rfl
  rw [hke, show cmix M bs zs cell R.ld R.ld = (clL M bs zs cell).flatMap SpanD.cells from by rw [clL_flat, hl, cmix, mixF_all]] at h9
  exact h9
end
end Go.Proofs.YthggkidiidnaoaaGreatDoor
