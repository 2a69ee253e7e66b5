import Derived.Test.YtapldonpflgnfaaGreatDoorLAD
import Derived.Test.YtapldonpflgnfaaGreatDoorLAG
import Derived.Test.YtapldonpflgnfaaGreatDoorLBB
import Derived.Test.YtapldonpflgnfaaGreatDoorLBD
import Derived.Test.YtapldonpflgnfaaGreatDoorLBE
import Derived.Test.YtapldonpflgnfaaGreatDoorLBF
import Derived.Test.YtapldonpflgnfaaGreatDoorRows
import Derived.KernelRfl
import Derived.Laws.StructEq
namespace Go.Proofs.YtapldonpflgnfaaGreatDoor
set_option linter.unusedVariables false
set_option linter.unusedSimpArgs false
section
open Go.RowKit
theorem Sta.call1 {E : Cfg} {U : Snaps} {w w' : World} (h : Sta E U [] w) (hb : Below w.heap.size w w') : Sta E ((E.w.heap.size, w') :: U) [] w' := by
 have h' := h.ext hb
 refine ⟨h'.chg, h'.box, h'.apart, fun lo u hu => ?_⟩
 cases hu with
 | head => exact ⟨Nat.le_refl _, h'.chg.size, Nat.le_refl _, fun k _ hk => rfl, h'.chg.block, fun i b cs hi => by cases hi⟩
 | tail _ hu => exact h'.snap lo u hu
theorem Sta.big1 {n : Nat} {D : List Deferred} {w0 u w : World} {U : Snaps} {L : Boxes} {v : Value} {z : Int} (h : Sta ⟨n, D, w0, []⟩ U L w) (hu : (w0.heap.size, u) ∈ U) (hV : BigV u v z) : BigV w v z := by
 obtain ⟨A, m, cap, P, e, ⟨hl, hI⟩, h2⟩ := hV
 obtain ⟨s0, s1, s2, s3, s4, -⟩ := h.snap _ _ hu
 refine ⟨A, m, cap, P, e, ⟨hl, fun h0 => ?_⟩, h2⟩
 obtain ⟨b, o, e1, q1, q2, q3⟩ := hI h0
 refine ⟨b, o, e1, q1, Nat.lt_of_lt_of_le q2 s2, fun j hj => ?_⟩
 have hk : w.heap[b]? = u.heap[b]? := by
  rcases Nat.lt_or_ge b w0.heap.size with g | g
  ·exact (h.chg.block b g (by simp)).trans (s4 b g (by simp)).symm
  ·exact s3 b g q2
 rw [World.cell?_of_block (w := u) (w' := w) (a := ⟨b, _, none⟩) hk]; exact q3 j hj
theorem aq_perm {E : Cfg} {U : Snaps} {l : Slots} {L L' : Boxes} {X : Act → World → Prop} (hp : L.Perm L') (h : AQ E U l L' X) : AQ E U l L X := fun a w hf hs => h a w hf (hs.perm hp)
def okAl (lo hi b n : Int) : Bool := decide ((allowL lo hi b n).1 ≤ (allowL lo hi b n).2)
theorem okAl_vld (lo hi b n : Int) : okAl lo hi b n = vld (allowL lo hi b n).1 (allowL lo hi b n).2 := by
 have h : 0 ≤ (allowL lo hi b n).1 ∧ (allowL lo hi b n).2 ≤ 1000000 := by
  unfold allowL possL
  split
  ·exact ⟨by simp only; omega, by simp only; omega⟩
  ·split
   ·exact ⟨by simp only; omega, by simp only; omega⟩
   ·split
    ·exact ⟨by simp only; omega, by simp only; omega⟩
    ·exact ⟨by simp only; omega, by simp only; omega⟩
 rw [Bool.eq_iff_iff, okAl, decide_eq_true_iff, vld_iff]
 omega
theorem allow_zero {lo hi b : Int} (hv : vld lo hi = true) : allowL lo hi b 0 = if wthn b lo hi = true then (0, 1000000) else (1, 0) := by
 unfold allowL possL
 rw [if_neg (by omega), if_neg (by omega), cont, hv, Bool.true_and, show (decide (lo ≤ b) && decide (b ≤ hi)) = wthn b lo hi from rfl]
 rfl
set_option maxRecDepth 100000 in
theorem rceil4_any (a b : Int) (w : World) (h0 : -100000000000000000 ≤ a) (h1 : a ≤ 100000000000000000) (k0 : -1000000 ≤ b) (k1 : b ≤ 1000000) (hb : b ≠ 0) : Calls Tryz.prog 76 #[(.int .i64 a), (.int .i64 b)] w (Ret (.int .i64 (cei a b)) w) := by
 refine calls_ax (vs := [(.int .i64 a), (.int .i64 b)]) Tryz.func76 rfl rfl ?_
 refine ac_seq (ac_region ?_)
 refine al_p (q_assign rfl) (al_end (aq_then ?_))
 refine ac_seq (ac_region ?_)
 refine al_p (q_move rfl) (al_callS Tryz.call121 (.cons rfl .nil) rfl rfl (fun w1 hs1 => ?_))
 refine (of_big a _ (by omega) (by omega)).mono ?_
 rintro e u1 ⟨v1, rfl, Vv1, hb_1⟩
 refine ⟨_, _, _, rfl, hs1.call1 hb_1, ?_⟩
 refine al_p (q_move rfl) (al_callS Tryz.call121 (.cons rfl .nil) rfl rfl (fun w2 hs2 => ?_))
 refine (of_big b _ (by omega) (by omega)).mono ?_
 rintro e u2 ⟨v2, rfl, Vv2, hb_2⟩
 refine ⟨_, _, _, rfl, hs2.call1 hb_2, ?_⟩
 refine al_callS Tryz.call120 (.cons rfl (.cons rfl .nil)) rfl rfl (fun w3 hs3 => ?_)
 refine (ceil_big a b v1 v2 _ (hs3.big1 (.tail _ (.head _)) Vv1) (hs3.big1 (.head _) Vv2) (by simp only [pw]; omega) (by simp only [pw]; omega) hb).mono ?_
 rintro e u3 ⟨v5, rfl, Vv5, hb_3⟩
 have Vw5 := Vv5.big
 refine ⟨_, _, _, rfl, hs3.call1 hb_3, ?_⟩
 refine al_call Tryz.call119 (.cons rfl .nil) rfl rfl (fun w4 hs4 => ?_)
 refine (int_any (cei a b) v5 _ (hs4.big1 (.head _) Vw5)).mono ?_
 rintro e u4 ⟨rfl, hb_4⟩
 refine ⟨_, rfl, hb_4, ?_⟩
 clear hs4
 refine al_p (q_move rfl) (al_p (q_extract rfl rfl) (al_p (q_extract rfl rfl) (al_p (q_assign rfl) (al_p (q_assign rfl) ?_))))
 refine al_end (aq_then ?_)
 refine ac_seq (ac_region ?_)
 refine al_p (q_move rfl) (al_p (q_assign rfl) (al_end (aq_then ?_)))
 refine ac_ret (ret1 Tryz.results76 rfl (fun w9 hs => ?_))
 refine ⟨?_, hs.below⟩; have q9 := cei_abs (x := a) (y := b) (k := 100000000000000000) h0 h1 (by omega) hb; unfold intL; rw [if_pos (by omega)]
set_option maxRecDepth 100000 in
theorem rfloor4_any (a b : Int) (w : World) (h0 : -100000000000000000 ≤ a) (h1 : a ≤ 100000000000000000) (k0 : -1000000 ≤ b) (k1 : b ≤ 1000000) (hb : b ≠ 0) : Calls Tryz.prog 77 #[(.int .i64 a), (.int .i64 b)] w (Ret (.int .i64 (flo a b)) w) := by
 refine calls_ax (vs := [(.int .i64 a), (.int .i64 b)]) Tryz.func77 rfl rfl ?_
 refine ac_seq (ac_region ?_)
 refine al_p (q_assign rfl) (al_end (aq_then ?_))
 refine ac_seq (ac_region ?_)
 refine al_p (q_move rfl) (al_callS Tryz.call121 (.cons rfl .nil) rfl rfl (fun w1 hs1 => ?_))
 refine (of_big a _ (by omega) (by omega)).mono ?_
 rintro e u1 ⟨v1, rfl, Vv1, hb_1⟩
 refine ⟨_, _, _, rfl, hs1.call1 hb_1, ?_⟩
 refine al_p (q_move rfl) (al_callS Tryz.call121 (.cons rfl .nil) rfl rfl (fun w2 hs2 => ?_))
 refine (of_big b _ (by omega) (by omega)).mono ?_
 rintro e u2 ⟨v2, rfl, Vv2, hb_2⟩
 refine ⟨_, _, _, rfl, hs2.call1 hb_2, ?_⟩
 refine al_callS Tryz.call122 (.cons rfl (.cons rfl .nil)) rfl rfl (fun w3 hs3 => ?_)
 refine (floor_big a b v1 v2 _ (hs3.big1 (.tail _ (.head _)) Vv1) (hs3.big1 (.head _) Vv2) (by simp only [pw]; omega) (by simp only [pw]; omega) hb).mono ?_
 rintro e u3 ⟨v5, rfl, Vv5, hb_3⟩
 have Vw5 := Vv5.big
 refine ⟨_, _, _, rfl, hs3.call1 hb_3, ?_⟩
 refine al_call Tryz.call119 (.cons rfl .nil) rfl rfl (fun w4 hs4 => ?_)
 refine (int_any (flo a b) v5 _ (hs4.big1 (.head _) Vw5)).mono ?_
 rintro e u4 ⟨rfl, hb_4⟩
 refine ⟨_, rfl, hb_4, ?_⟩
 clear hs4
 refine al_p (q_move rfl) (al_p (q_extract rfl rfl) (al_p (q_extract rfl rfl) (al_p (q_assign rfl) (al_p (q_assign rfl) ?_))))
 refine al_end (aq_then ?_)
 refine ac_seq (ac_region ?_)
 refine al_p (q_move rfl) (al_p (q_assign rfl) (al_end (aq_then ?_)))
 refine ac_ret (ret1 Tryz.results77 rfl (fun w9 hs => ?_))
 refine ⟨?_, hs.below⟩; have q9 := flo_abs (x := a) (y := b) (k := 100000000000000000) h0 h1 (by omega) hb; unfold intL; rw [if_pos (by omega)]
theorem sxb_bl_apiSpan_0_1 (a0 a1 : Value) (ha0 : a0.oneCell' = true) (ha1 : a1.oneCell' = true) : ∀ w, (Instr.build 41 #[(0, a0), (1, a1)]).run Tryz.prog w = .ok (.agg #[a0, a1]) w := by
 have ea0 : a0.cells = #[a0] := cells_one ha0
 have ea1 : a1.cells = #[a1] := cells_one ha1
 intro w; simp [Instr.build, Instr.fill, cells_agg, Tryz.runUnderlying41, Tryz.zeroValue41, Tryz.sizeOf3, ea0, ea1]
set_option maxRecDepth 100000 in
theorem rallowed4_any (lo hi b n : Int) (w : World) (hv : vld lo hi = true) (b0 : -50000000000000000 ≤ b) (b1 : b ≤ 50000000000000000) (n0 : -250000 ≤ n) (n1 : n ≤ 250000) : Calls Tryz.prog 36 #[(.int .i64 b), (.int .i64 n), (.agg #[.int .i64 lo, .int .i64 hi])] w (fun e w' => ∃ x y : Int, e = .returned (.tuple #[.agg #[.int .i64 x, .int .i64 y], .bool (okAl lo hi b n)]) ∧ (okAl lo hi b n = true → x = (allowL lo hi b n).1 ∧ y = (allowL lo hi b n).2) ∧ Below w.heap.size w w') := by
 have hv2 := vld_iff.1 hv
 refine calls_ax (vs := [(.int .i64 b), (.int .i64 n), (.agg #[.int .i64 lo, .int .i64 hi])]) Tryz.func36 rfl rfl ?_
 refine ac_seq (ac_region ?_)
 refine al_new (fun b => .pointer (some ⟨b, 0, none⟩)) (r_box rfl rfl) rfl rfl rfl ?_
 intro b1
 refine al_new (fun b => .pointer (some ⟨b, 0, none⟩)) (r_alloc Tryz.zeroValue41 rfl) rfl rfl rfl ?_
 intro b2
 refine al_p (q_assign rfl) (al_end (aq_then ?_))
 refine ac_seq (ac_region ?_)
 refine al_p (q_build (.cons rfl (.cons rfl .nil)) (sxb_bl_apiSpan_0_1 _ _ rfl rfl)) (al_new (fun b => .pointer (some ⟨b, 0, none⟩)) (r_alloc Tryz.zeroValue41 rfl) rfl rfl rfl ?_)
 intro b3
 refine al_storeAll (i := 0) rfl rfl rfl rfl Tryz.sizeOf41 rfl rfl .k0 rfl (al_end (aq_then ?_))
 refine ac_seq (ac_block (ac_seq (aq_perm (List.Perm.swap _ _ _) ?_)))
 refine ac_region (al_p (q_move rfl) (al_p (q_eql rfl rfl) (al_p (q_assign rfl) (al_end (aq_then ?_)))))
 refine ac_cond rfl (fun h1 => ?_) (fun h1 => ?_)
 ·have q_h1 := of_decide_eq_true h1
  refine ac_seq (ac_drawK 1 8 rfl (by kernel_rfl) (by kernel_rfl) ?_)
  refine ah_t 0 (fun w9 hs => (hs.tail 1 rfl)) rfl rfl (by kernel_rfl) (q_loadAll (i := 0) rfl rfl Tryz.isAgg41 Tryz.sizeOf41 rfl) (ah_t 1 (fun w9 hs => (hs.tail 1 rfl)) rfl rfl (by kernel_rfl) (q_move rfl) ?_)
  refine ah_t 2 (fun w9 hs => (hs.tail 1 rfl)) rfl rfl (by kernel_rfl) (q_fieldAddr 0 rfl Tryz.runUnderlying41 rfl Tryz.sizeOf3 (by decide) rfl) (ah_t 3 (fun w9 hs => (hs.tail 1 rfl)) rfl rfl (by kernel_rfl) (q_load (i := 1) rfl rfl rfl Tryz.isAgg3) ?_)
  refine ah_t 4 (fun w9 hs => (hs.tail 1 rfl)) rfl rfl (by kernel_rfl) (q_fieldAddr 1 rfl Tryz.runUnderlying41 rfl Tryz.sizeOf3 (by decide) rfl) (ah_t 5 (fun w9 hs => (hs.tail 1 rfl)) rfl rfl (by kernel_rfl) (q_load (i := 1) rfl rfl rfl Tryz.isAgg3) (ah_one 6 rfl (by kernel_rfl) (fun hok1 hcl1 => ?_)))
  refine al_call Tryz.call33 (.cons rfl (.cons rfl (.cons rfl .nil))) rfl rfl (fun w1 hs1 => ?_)
  refine (rwithin4b_any b lo hi _).mono ?_
  rintro e u1 ⟨rfl, rfl⟩
  refine ⟨_, rfl, (Below.refl _ _), ?_⟩
  clear hs1
  refine al_end (ah_back hok1 hcl1 (fun w9 hs => ((hs.fewer 1 rfl).tail 1 rfl)) ?_)
  refine ah_one 7 rfl (by kernel_rfl) (fun hok2 hcl2 => ?_)
  refine al_storeAll (i := 0) rfl rfl rfl rfl Tryz.sizeOf41 rfl rfl .k0 rfl (al_end (ah_back hok2 hcl2 (fun w9 hs => ((hs.fewer 1 rfl).tail 1 rfl)) ?_))
  refine ah_one 8 rfl (by kernel_rfl) (fun hok3 hcl3 => ?_)
  refine al_p (q_assign rfl) (al_end (ah_last (by kernel_rfl) ?_))
  refine aq_then (ac_ret (aq_inR (aq_thenR (retR Tryz.results36 (.agg (i := 0) rfl rfl Tryz.isAgg41 Tryz.sizeOf41 rfl (.tmp rfl .nil)) .two (fun w9 hs => ?_)))))
  rw [q_h1] at *
  refine ⟨0, 1000000, ?_, fun h => ?_, hs.below⟩
  ·rw [okAl, allow_zero hv]; cases wthn b lo hi <;> rfl
  ·rw [okAl, allow_zero hv] at h; rw [allow_zero hv]; cases hw : wthn b lo hi
   ·rw [hw] at h; cases h
   ·exact ⟨rfl, rfl⟩
 ·have q_h1 := of_decide_eq_false h1
  refine ac_seq (ac_region ?_)
  refine al_p (q_move rfl) (al_p (q_gtr rfl rfl) (al_p (q_assign rfl) (al_end (aq_then ?_))))
  refine ac_cond rfl (fun h2 => ?_) (fun h2 => ?_)
  ·have q_h2 := of_decide_eq_true h2
   refine ac_seq (ac_seq (ac_region ?_))
   refine al_p (q_fieldAddr 0 rfl Tryz.runUnderlying41 rfl Tryz.sizeOf3 (by decide) rfl) (al_p (q_load (i := 2) rfl rfl rfl Tryz.isAgg3) (al_p (q_move rfl) ?_))
   refine al_p (q_sub rfl rfl (by omega)) (al_p (q_move rfl) (al_call Tryz.call76 (.cons rfl (.cons rfl .nil)) rfl rfl (fun w2 hs2 => ?_)))
   refine (rceil4_any (lo - b) n _ (by omega) (by omega) (by omega) (by omega) (by omega)).mono ?_
   rintro e u2 ⟨rfl, hb_2⟩
   refine ⟨_, rfl, hb_2, ?_⟩
   clear hs2
   refine al_p (q_assign rfl) (al_end (aq_then ?_))
   refine ac_seq (ac_region ?_)
   refine al_p (q_move rfl) ?_
   refine al_p (q_fieldAddr 0 rfl Tryz.runUnderlying41 rfl Tryz.sizeOf3 (by decide) rfl) (al_p (q_load (i := 1) rfl rfl rfl Tryz.isAgg3) (al_p (q_gtr rfl rfl) (al_end (aq_then ?_))))
   refine ac_cond rfl (fun h3 => ?_) (fun h3 => ?_)
   ·have q_h3 := of_decide_eq_true h3
    refine ac_region (al_p (q_move rfl) ?_)
    refine al_p (q_fieldAddr 0 rfl Tryz.runUnderlying41 rfl Tryz.sizeOf3 (by decide) rfl) (al_store1 (i := 1) rfl rfl rfl rfl Tryz.sizeOf3 .k0 .k1 rfl (al_end (aq_then ?_)))
    refine ac_seq (ac_region ?_)
    refine al_p (q_fieldAddr 1 rfl Tryz.runUnderlying41 rfl Tryz.sizeOf3 (by decide) rfl) (al_p (q_load (i := 2) rfl rfl rfl Tryz.isAgg3) (al_p (q_move rfl) ?_))
    refine al_p (q_sub rfl rfl (by omega)) (al_p (q_move rfl) (al_call Tryz.call77 (.cons rfl (.cons rfl .nil)) rfl rfl (fun w3 hs3 => ?_)))
    refine (rfloor4_any (hi - b) n _ (by omega) (by omega) (by omega) (by omega) (by omega)).mono ?_
    rintro e u3 ⟨rfl, hb_3⟩
    refine ⟨_, rfl, hb_3, ?_⟩
    clear hs3
    refine al_p (q_assign rfl) (al_end (aq_then ?_))
    refine ac_seq (ac_region ?_)
    refine al_p (q_move rfl) ?_
    refine al_p (q_fieldAddr 1 rfl Tryz.runUnderlying41 rfl Tryz.sizeOf3 (by decide) rfl) (al_p (q_load (i := 1) rfl rfl rfl Tryz.isAgg3) (al_p (q_lss rfl rfl) (al_end (aq_then ?_))))
    refine ac_cond rfl (fun h4 => ?_) (fun h4 => ?_)
    ·have q_h4 := of_decide_eq_true h4
     refine ac_region (al_p (q_move rfl) ?_)
     refine al_p (q_fieldAddr 1 rfl Tryz.runUnderlying41 rfl Tryz.sizeOf3 (by decide) rfl) (al_store1 (i := 1) rfl rfl rfl rfl Tryz.sizeOf3 .k1 .k1 rfl (al_end (aq_inN (aq_then ?_))))
     refine ac_seq (ac_drawK 1 7 rfl (by kernel_rfl) (by kernel_rfl) ?_)
     refine ah_t 0 (fun w9 hs => (hs.tail 1 rfl)) rfl rfl (by kernel_rfl) (q_loadAll (i := 0) rfl rfl Tryz.isAgg41 Tryz.sizeOf41 rfl) ?_
     refine ah_t 1 (fun w9 hs => (hs.tail 1 rfl)) rfl rfl (by kernel_rfl) (q_fieldAddr 0 rfl Tryz.runUnderlying41 rfl Tryz.sizeOf3 (by decide) rfl) (ah_t 2 (fun w9 hs => (hs.tail 1 rfl)) rfl rfl (by kernel_rfl) (q_load (i := 0) rfl rfl rfl Tryz.isAgg3) ?_)
     refine ah_t 3 (fun w9 hs => (hs.tail 1 rfl)) rfl rfl (by kernel_rfl) (q_fieldAddr 1 rfl Tryz.runUnderlying41 rfl Tryz.sizeOf3 (by decide) rfl) (ah_t 4 (fun w9 hs => (hs.tail 1 rfl)) rfl rfl (by kernel_rfl) (q_load (i := 0) rfl rfl rfl Tryz.isAgg3) (ah_t 5 (fun w9 hs => (hs.tail 1 rfl)) rfl rfl (by kernel_rfl) (q_leq rfl rfl) (ah_one 6 rfl (by kernel_rfl) (fun hok4 hcl4 => ?_))))
     refine al_storeAll (i := 0) rfl rfl rfl rfl Tryz.sizeOf41 rfl rfl .k0 rfl (al_end (ah_back hok4 hcl4 (fun w9 hs => (hs.tail 1 rfl)) ?_))
     refine ah_one 7 rfl (by kernel_rfl) (fun hok5 hcl5 => ?_)
     refine al_p (q_assign rfl) (al_end (ah_last (by kernel_rfl) ?_))
     refine aq_then (ac_ret (retR Tryz.results36 (.agg (i := 0) rfl rfl Tryz.isAgg41 Tryz.sizeOf41 rfl (.tmp rfl .nil)) .two (fun w9 hs => ?_)))
     have hA : allowL lo hi b n = ((cei (lo - b) n), (flo (hi - b) n)) := by
      unfold allowL possL
      first
      | (rw [if_pos (by omega)]; exact Prod.ext (by simp only; omega) (by simp only; omega))
      | (rw [if_neg (by omega), if_pos (by omega)]; exact Prod.ext (by simp only; omega) (by simp only; omega))
     exact ⟨(cei (lo - b) n), (flo (hi - b) n), by rw [okAl, hA], fun _ => by rw [hA]; exact ⟨rfl, rfl⟩, hs.below⟩
    ·have q_h4 := of_decide_eq_false h4
     refine ac_skip (aq_inN (aq_then (ac_seq (ac_drawK 1 7 rfl (by kernel_rfl) (by kernel_rfl) ?_))))
     refine ah_t 0 (fun w9 hs => (hs.tail 1 rfl)) rfl rfl (by kernel_rfl) (q_loadAll (i := 0) rfl rfl Tryz.isAgg41 Tryz.sizeOf41 rfl) ?_
     refine ah_t 1 (fun w9 hs => (hs.tail 1 rfl)) rfl rfl (by kernel_rfl) (q_fieldAddr 0 rfl Tryz.runUnderlying41 rfl Tryz.sizeOf3 (by decide) rfl) (ah_t 2 (fun w9 hs => (hs.tail 1 rfl)) rfl rfl (by kernel_rfl) (q_load (i := 0) rfl rfl rfl Tryz.isAgg3) ?_)
     refine ah_t 3 (fun w9 hs => (hs.tail 1 rfl)) rfl rfl (by kernel_rfl) (q_fieldAddr 1 rfl Tryz.runUnderlying41 rfl Tryz.sizeOf3 (by decide) rfl) (ah_t 4 (fun w9 hs => (hs.tail 1 rfl)) rfl rfl (by kernel_rfl) (q_load (i := 0) rfl rfl rfl Tryz.isAgg3) (ah_t 5 (fun w9 hs => (hs.tail 1 rfl)) rfl rfl (by kernel_rfl) (q_leq rfl rfl) (ah_one 6 rfl (by kernel_rfl) (fun hok6 hcl6 => ?_))))
     refine al_storeAll (i := 0) rfl rfl rfl rfl Tryz.sizeOf41 rfl rfl .k0 rfl (al_end (ah_back hok6 hcl6 (fun w9 hs => (hs.tail 1 rfl)) ?_))
     refine ah_one 7 rfl (by kernel_rfl) (fun hok7 hcl7 => ?_)
     refine al_p (q_assign rfl) (al_end (ah_last (by kernel_rfl) ?_))
     refine aq_then (ac_ret (retR Tryz.results36 (.agg (i := 0) rfl rfl Tryz.isAgg41 Tryz.sizeOf41 rfl (.tmp rfl .nil)) .two (fun w9 hs => ?_)))
     have hA : allowL lo hi b n = ((cei (lo - b) n), 1000000) := by
      unfold allowL possL
      first
      | (rw [if_pos (by omega)]; exact Prod.ext (by simp only; omega) (by simp only; omega))
      | (rw [if_neg (by omega), if_pos (by omega)]; exact Prod.ext (by simp only; omega) (by simp only; omega))
     exact ⟨(cei (lo - b) n), 1000000, by rw [okAl, hA], fun _ => by rw [hA]; exact ⟨rfl, rfl⟩, hs.below⟩
   ·have q_h3 := of_decide_eq_false h3
    refine ac_skip (aq_then (ac_seq (ac_region ?_)))
    refine al_p (q_fieldAddr 1 rfl Tryz.runUnderlying41 rfl Tryz.sizeOf3 (by decide) rfl) (al_p (q_load (i := 2) rfl rfl rfl Tryz.isAgg3) (al_p (q_move rfl) ?_))
    refine al_p (q_sub rfl rfl (by omega)) (al_p (q_move rfl) (al_call Tryz.call77 (.cons rfl (.cons rfl .nil)) rfl rfl (fun w4 hs4 => ?_)))
    refine (rfloor4_any (hi - b) n _ (by omega) (by omega) (by omega) (by omega) (by omega)).mono ?_
    rintro e u4 ⟨rfl, hb_4⟩
    refine ⟨_, rfl, hb_4, ?_⟩
    clear hs4
    refine al_p (q_assign rfl) (al_end (aq_then ?_))
    refine ac_seq (ac_region ?_)
    refine al_p (q_move rfl) ?_
    refine al_p (q_fieldAddr 1 rfl Tryz.runUnderlying41 rfl Tryz.sizeOf3 (by decide) rfl) (al_p (q_load (i := 1) rfl rfl rfl Tryz.isAgg3) (al_p (q_lss rfl rfl) (al_end (aq_then ?_))))
    refine aq_keepL [6, 7, 8, 10, 72] (.cons rfl (.cons rfl (.cons rfl (.cons rfl (.cons rfl .nil))))) ?_
    refine ac_cond rfl (fun h5 => ?_) (fun h5 => ?_)
    ·have q_h5 := of_decide_eq_true h5
     refine ac_region (al_p (q_move rfl) ?_)
     refine al_p (q_fieldAddr 1 rfl Tryz.runUnderlying41 rfl Tryz.sizeOf3 (by decide) rfl) (al_store1 (i := 1) rfl rfl rfl rfl Tryz.sizeOf3 .k1 .k1 rfl (al_end (aq_inN (aq_then ?_))))
     refine ac_seq (ac_drawK 1 7 rfl (by kernel_rfl) (by kernel_rfl) ?_)
     refine ah_t 0 (fun w9 hs => (hs.tail 1 rfl)) rfl rfl (by kernel_rfl) (q_loadAll (i := 0) rfl rfl Tryz.isAgg41 Tryz.sizeOf41 rfl) ?_
     refine ah_t 1 (fun w9 hs => (hs.tail 1 rfl)) rfl rfl (by kernel_rfl) (q_fieldAddr 0 rfl Tryz.runUnderlying41 rfl Tryz.sizeOf3 (by decide) rfl) (ah_t 2 (fun w9 hs => (hs.tail 1 rfl)) rfl rfl (by kernel_rfl) (q_load (i := 0) rfl rfl rfl Tryz.isAgg3) ?_)
     refine ah_t 3 (fun w9 hs => (hs.tail 1 rfl)) rfl rfl (by kernel_rfl) (q_fieldAddr 1 rfl Tryz.runUnderlying41 rfl Tryz.sizeOf3 (by decide) rfl) (ah_t 4 (fun w9 hs => (hs.tail 1 rfl)) rfl rfl (by kernel_rfl) (q_load (i := 0) rfl rfl rfl Tryz.isAgg3) (ah_t 5 (fun w9 hs => (hs.tail 1 rfl)) rfl rfl (by kernel_rfl) (q_leq rfl rfl) (ah_one 6 rfl (by kernel_rfl) (fun hok8 hcl8 => ?_))))
     refine al_storeAll (i := 0) rfl rfl rfl rfl Tryz.sizeOf41 rfl rfl .k0 rfl (al_end (ah_back hok8 hcl8 (fun w9 hs => (hs.tail 1 rfl)) ?_))
     refine ah_one 7 rfl (by kernel_rfl) (fun hok9 hcl9 => ?_)
     refine al_p (q_assign rfl) (al_end (ah_last (by kernel_rfl) ?_))
     refine aq_then (ac_ret (retR Tryz.results36 (.agg (i := 0) rfl rfl Tryz.isAgg41 Tryz.sizeOf41 rfl (.tmp rfl .nil)) .two (fun w9 hs => ?_)))
     have hA : allowL lo hi b n = (0, (flo (hi - b) n)) := by
      unfold allowL possL
      first
      | (rw [if_pos (by omega)]; exact Prod.ext (by simp only; omega) (by simp only; omega))
      | (rw [if_neg (by omega), if_pos (by omega)]; exact Prod.ext (by simp only; omega) (by simp only; omega))
     exact ⟨0, (flo (hi - b) n), by rw [okAl, hA], fun _ => by rw [hA]; exact ⟨rfl, rfl⟩, hs.below⟩
    ·have q_h5 := of_decide_eq_false h5
     refine ac_skip (aq_inN (aq_then (ac_seq (ac_drawK 1 7 rfl (by kernel_rfl) (by kernel_rfl) ?_))))
     refine ah_t 0 (fun w9 hs => (hs.tail 1 rfl)) rfl rfl (by kernel_rfl) (q_loadAll (i := 0) rfl rfl Tryz.isAgg41 Tryz.sizeOf41 rfl) ?_
     refine ah_t 1 (fun w9 hs => (hs.tail 1 rfl)) rfl rfl (by kernel_rfl) (q_fieldAddr 0 rfl Tryz.runUnderlying41 rfl Tryz.sizeOf3 (by decide) rfl) (ah_t 2 (fun w9 hs => (hs.tail 1 rfl)) rfl rfl (by kernel_rfl) (q_load (i := 0) rfl rfl rfl Tryz.isAgg3) ?_)
     refine ah_t 3 (fun w9 hs => (hs.tail 1 rfl)) rfl rfl (by kernel_rfl) (q_fieldAddr 1 rfl Tryz.runUnderlying41 rfl Tryz.sizeOf3 (by decide) rfl) (ah_t 4 (fun w9 hs => (hs.tail 1 rfl)) rfl rfl (by kernel_rfl) (q_load (i := 0) rfl rfl rfl Tryz.isAgg3) (ah_t 5 (fun w9 hs => (hs.tail 1 rfl)) rfl rfl (by kernel_rfl) (q_leq rfl rfl) (ah_one 6 rfl (by kernel_rfl) (fun hok10 hcl10 => ?_))))
     refine al_storeAll (i := 0) rfl rfl rfl rfl Tryz.sizeOf41 rfl rfl .k0 rfl (al_end (ah_back hok10 hcl10 (fun w9 hs => (hs.tail 1 rfl)) ?_))
     refine ah_one 7 rfl (by kernel_rfl) (fun hok11 hcl11 => ?_)
     refine al_p (q_assign rfl) (al_end (ah_last (by kernel_rfl) ?_))
     refine aq_then (ac_ret (retR Tryz.results36 (.agg (i := 0) rfl rfl Tryz.isAgg41 Tryz.sizeOf41 rfl (.tmp rfl .nil)) .two (fun w9 hs => ?_)))
     have hA : allowL lo hi b n = (0, 1000000) := by
      unfold allowL possL
      first
      | (rw [if_pos (by omega)]; exact Prod.ext (by simp only; omega) (by simp only; omega))
      | (rw [if_neg (by omega), if_pos (by omega)]; exact Prod.ext (by simp only; omega) (by simp only; omega))
     exact ⟨0, 1000000, by rw [okAl, hA], fun _ => by rw [hA]; exact ⟨rfl, rfl⟩, hs.below⟩
  ·have q_h2 := of_decide_eq_false h2
   refine ac_seq (ac_seq (ac_region ?_))
   refine al_p (q_fieldAddr 1 rfl Tryz.runUnderlying41 rfl Tryz.sizeOf3 (by decide) rfl) (al_p (q_load (i := 2) rfl rfl rfl Tryz.isAgg3) (al_p (q_move rfl) ?_))
   refine al_p (q_sub rfl rfl (by omega)) (al_p (q_move rfl) (al_call Tryz.call76 (.cons rfl (.cons rfl .nil)) rfl rfl (fun w5 hs5 => ?_)))
   refine (rceil4_any (hi - b) n _ (by omega) (by omega) (by omega) (by omega) (by omega)).mono ?_
   rintro e u5 ⟨rfl, hb_5⟩
   refine ⟨_, rfl, hb_5, ?_⟩
   clear hs5
   refine al_p (q_assign rfl) (al_end (aq_then ?_))
   refine ac_seq (ac_region ?_)
   refine al_p (q_move rfl) ?_
   refine al_p (q_fieldAddr 0 rfl Tryz.runUnderlying41 rfl Tryz.sizeOf3 (by decide) rfl) (al_p (q_load (i := 1) rfl rfl rfl Tryz.isAgg3) (al_p (q_gtr rfl rfl) (al_end (aq_then ?_))))
   refine ac_cond rfl (fun h6 => ?_) (fun h6 => ?_)
   ·have q_h6 := of_decide_eq_true h6
    refine ac_region (al_p (q_move rfl) ?_)
    refine al_p (q_fieldAddr 0 rfl Tryz.runUnderlying41 rfl Tryz.sizeOf3 (by decide) rfl) (al_store1 (i := 1) rfl rfl rfl rfl Tryz.sizeOf3 .k0 .k1 rfl (al_end (aq_then ?_)))
    refine ac_seq (ac_region ?_)
    refine al_p (q_fieldAddr 0 rfl Tryz.runUnderlying41 rfl Tryz.sizeOf3 (by decide) rfl) (al_p (q_load (i := 2) rfl rfl rfl Tryz.isAgg3) (al_p (q_move rfl) ?_))
    refine al_p (q_sub rfl rfl (by omega)) (al_p (q_move rfl) (al_call Tryz.call77 (.cons rfl (.cons rfl .nil)) rfl rfl (fun w6 hs6 => ?_)))
    refine (rfloor4_any (lo - b) n _ (by omega) (by omega) (by omega) (by omega) (by omega)).mono ?_
    rintro e u6 ⟨rfl, hb_6⟩
    refine ⟨_, rfl, hb_6, ?_⟩
    clear hs6
    refine al_p (q_assign rfl) (al_end (aq_then ?_))
    refine ac_seq (ac_region ?_)
    refine al_p (q_move rfl) ?_
    refine al_p (q_fieldAddr 1 rfl Tryz.runUnderlying41 rfl Tryz.sizeOf3 (by decide) rfl) (al_p (q_load (i := 1) rfl rfl rfl Tryz.isAgg3) (al_p (q_lss rfl rfl) (al_end (aq_then ?_))))
    refine ac_cond rfl (fun h7 => ?_) (fun h7 => ?_)
    ·have q_h7 := of_decide_eq_true h7
     refine ac_region (al_p (q_move rfl) ?_)
     refine al_p (q_fieldAddr 1 rfl Tryz.runUnderlying41 rfl Tryz.sizeOf3 (by decide) rfl) (al_store1 (i := 1) rfl rfl rfl rfl Tryz.sizeOf3 .k1 .k1 rfl (al_end (aq_inN (aq_then ?_))))
     refine ac_seq (ac_drawK 1 7 rfl (by kernel_rfl) (by kernel_rfl) ?_)
     refine ah_t 0 (fun w9 hs => (hs.tail 1 rfl)) rfl rfl (by kernel_rfl) (q_loadAll (i := 0) rfl rfl Tryz.isAgg41 Tryz.sizeOf41 rfl) ?_
     refine ah_t 1 (fun w9 hs => (hs.tail 1 rfl)) rfl rfl (by kernel_rfl) (q_fieldAddr 0 rfl Tryz.runUnderlying41 rfl Tryz.sizeOf3 (by decide) rfl) (ah_t 2 (fun w9 hs => (hs.tail 1 rfl)) rfl rfl (by kernel_rfl) (q_load (i := 0) rfl rfl rfl Tryz.isAgg3) ?_)
     refine ah_t 3 (fun w9 hs => (hs.tail 1 rfl)) rfl rfl (by kernel_rfl) (q_fieldAddr 1 rfl Tryz.runUnderlying41 rfl Tryz.sizeOf3 (by decide) rfl) (ah_t 4 (fun w9 hs => (hs.tail 1 rfl)) rfl rfl (by kernel_rfl) (q_load (i := 0) rfl rfl rfl Tryz.isAgg3) (ah_t 5 (fun w9 hs => (hs.tail 1 rfl)) rfl rfl (by kernel_rfl) (q_leq rfl rfl) (ah_one 6 rfl (by kernel_rfl) (fun hok12 hcl12 => ?_))))
     refine al_storeAll (i := 0) rfl rfl rfl rfl Tryz.sizeOf41 rfl rfl .k0 rfl (al_end (ah_back hok12 hcl12 (fun w9 hs => (hs.tail 1 rfl)) ?_))
     refine ah_one 7 rfl (by kernel_rfl) (fun hok13 hcl13 => ?_)
     refine al_p (q_assign rfl) (al_end (ah_last (by kernel_rfl) ?_))
     refine aq_then (ac_ret (retR Tryz.results36 (.agg (i := 0) rfl rfl Tryz.isAgg41 Tryz.sizeOf41 rfl (.tmp rfl .nil)) .two (fun w9 hs => ?_)))
     have hA : allowL lo hi b n = ((cei (hi - b) n), (flo (lo - b) n)) := by
      unfold allowL possL
      first
      | (rw [if_pos (by omega)]; exact Prod.ext (by simp only; omega) (by simp only; omega))
      | (rw [if_neg (by omega), if_pos (by omega)]; exact Prod.ext (by simp only; omega) (by simp only; omega))
     exact ⟨(cei (hi - b) n), (flo (lo - b) n), by rw [okAl, hA], fun _ => by rw [hA]; exact ⟨rfl, rfl⟩, hs.below⟩
    ·have q_h7 := of_decide_eq_false h7
     refine ac_skip (aq_inN (aq_then (ac_seq (ac_drawK 1 7 rfl (by kernel_rfl) (by kernel_rfl) ?_))))
     refine ah_t 0 (fun w9 hs => (hs.tail 1 rfl)) rfl rfl (by kernel_rfl) (q_loadAll (i := 0) rfl rfl Tryz.isAgg41 Tryz.sizeOf41 rfl) ?_
     refine ah_t 1 (fun w9 hs => (hs.tail 1 rfl)) rfl rfl (by kernel_rfl) (q_fieldAddr 0 rfl Tryz.runUnderlying41 rfl Tryz.sizeOf3 (by decide) rfl) (ah_t 2 (fun w9 hs => (hs.tail 1 rfl)) rfl rfl (by kernel_rfl) (q_load (i := 0) rfl rfl rfl Tryz.isAgg3) ?_)
     refine ah_t 3 (fun w9 hs => (hs.tail 1 rfl)) rfl rfl (by kernel_rfl) (q_fieldAddr 1 rfl Tryz.runUnderlying41 rfl Tryz.sizeOf3 (by decide) rfl) (ah_t 4 (fun w9 hs => (hs.tail 1 rfl)) rfl rfl (by kernel_rfl) (q_load (i := 0) rfl rfl rfl Tryz.isAgg3) (ah_t 5 (fun w9 hs => (hs.tail 1 rfl)) rfl rfl (by kernel_rfl) (q_leq rfl rfl) (ah_one 6 rfl (by kernel_rfl) (fun hok14 hcl14 => ?_))))
     refine al_storeAll (i := 0) rfl rfl rfl rfl Tryz.sizeOf41 rfl rfl .k0 rfl (al_end (ah_back hok14 hcl14 (fun w9 hs => (hs.tail 1 rfl)) ?_))
     refine ah_one 7 rfl (by kernel_rfl) (fun hok15 hcl15 => ?_)
     refine al_p (q_assign rfl) (al_end (ah_last (by kernel_rfl) ?_))
     refine aq_then (ac_ret (retR Tryz.results36 (.agg (i := 0) rfl rfl Tryz.isAgg41 Tryz.sizeOf41 rfl (.tmp rfl .nil)) .two (fun w9 hs => ?_)))
     have hA : allowL lo hi b n = ((cei (hi - b) n), 1000000) := by
      unfold allowL possL
      first
      | (rw [if_pos (by omega)]; exact Prod.ext (by simp only; omega) (by simp only; omega))
      | (rw [if_neg (by omega), if_pos (by omega)]; exact Prod.ext (by simp only; omega) (by simp only; omega))
     exact ⟨(cei (hi - b) n), 1000000, by rw [okAl, hA], fun _ => by rw [hA]; exact ⟨rfl, rfl⟩, hs.below⟩
   ·have q_h6 := of_decide_eq_false h6
    refine ac_skip (aq_then (ac_seq (ac_region ?_)))
    refine al_p (q_fieldAddr 0 rfl Tryz.runUnderlying41 rfl Tryz.sizeOf3 (by decide) rfl) (al_p (q_load (i := 2) rfl rfl rfl Tryz.isAgg3) (al_p (q_move rfl) ?_))
    refine al_p (q_sub rfl rfl (by omega)) (al_p (q_move rfl) (al_call Tryz.call77 (.cons rfl (.cons rfl .nil)) rfl rfl (fun w7 hs7 => ?_)))
    refine (rfloor4_any (lo - b) n _ (by omega) (by omega) (by omega) (by omega) (by omega)).mono ?_
    rintro e u7 ⟨rfl, hb_7⟩
    refine ⟨_, rfl, hb_7, ?_⟩
    clear hs7
    refine al_p (q_assign rfl) (al_end (aq_then ?_))
    refine aq_keepL [6, 7, 8, 12] (.cons rfl (.cons rfl (.cons rfl (.cons rfl .nil)))) ?_
    refine ac_seq (ac_region ?_)
    refine al_p (q_move rfl) ?_
    refine al_p (q_fieldAddr 1 rfl Tryz.runUnderlying41 rfl Tryz.sizeOf3 (by decide) rfl) (al_p (q_load (i := 1) rfl rfl rfl Tryz.isAgg3) (al_p (q_lss rfl rfl) (al_end (aq_then ?_))))
    refine ac_cond rfl (fun h8 => ?_) (fun h8 => ?_)
    ·have q_h8 := of_decide_eq_true h8
     refine ac_region (al_p (q_move rfl) ?_)
     refine al_p (q_fieldAddr 1 rfl Tryz.runUnderlying41 rfl Tryz.sizeOf3 (by decide) rfl) (al_store1 (i := 1) rfl rfl rfl rfl Tryz.sizeOf3 .k1 .k1 rfl (al_end (aq_inN (aq_then ?_))))
     refine ac_seq (ac_drawK 1 7 rfl (by kernel_rfl) (by kernel_rfl) ?_)
     refine ah_t 0 (fun w9 hs => (hs.tail 1 rfl)) rfl rfl (by kernel_rfl) (q_loadAll (i := 0) rfl rfl Tryz.isAgg41 Tryz.sizeOf41 rfl) ?_
     refine ah_t 1 (fun w9 hs => (hs.tail 1 rfl)) rfl rfl (by kernel_rfl) (q_fieldAddr 0 rfl Tryz.runUnderlying41 rfl Tryz.sizeOf3 (by decide) rfl) (ah_t 2 (fun w9 hs => (hs.tail 1 rfl)) rfl rfl (by kernel_rfl) (q_load (i := 0) rfl rfl rfl Tryz.isAgg3) ?_)
     refine ah_t 3 (fun w9 hs => (hs.tail 1 rfl)) rfl rfl (by kernel_rfl) (q_fieldAddr 1 rfl Tryz.runUnderlying41 rfl Tryz.sizeOf3 (by decide) rfl) (ah_t 4 (fun w9 hs => (hs.tail 1 rfl)) rfl rfl (by kernel_rfl) (q_load (i := 0) rfl rfl rfl Tryz.isAgg3) (ah_t 5 (fun w9 hs => (hs.tail 1 rfl)) rfl rfl (by kernel_rfl) (q_leq rfl rfl) (ah_one 6 rfl (by kernel_rfl) (fun hok16 hcl16 => ?_))))
     refine al_storeAll (i := 0) rfl rfl rfl rfl Tryz.sizeOf41 rfl rfl .k0 rfl (al_end (ah_back hok16 hcl16 (fun w9 hs => (hs.tail 1 rfl)) ?_))
     refine ah_one 7 rfl (by kernel_rfl) (fun hok17 hcl17 => ?_)
     refine al_p (q_assign rfl) (al_end (ah_last (by kernel_rfl) ?_))
     refine aq_then (ac_ret (retR Tryz.results36 (.agg (i := 0) rfl rfl Tryz.isAgg41 Tryz.sizeOf41 rfl (.tmp rfl .nil)) .two (fun w9 hs => ?_)))
     have hA : allowL lo hi b n = (0, (flo (lo - b) n)) := by
      unfold allowL possL
      first
      | (rw [if_pos (by omega)]; exact Prod.ext (by simp only; omega) (by simp only; omega))
      | (rw [if_neg (by omega), if_pos (by omega)]; exact Prod.ext (by simp only; omega) (by simp only; omega))
     exact ⟨0, (flo (lo - b) n), by rw [okAl, hA], fun _ => by rw [hA]; exact ⟨rfl, rfl⟩, hs.below⟩
    ·have q_h8 := of_decide_eq_false h8
     refine ac_skip (aq_inN (aq_then (ac_seq (ac_drawK 1 7 rfl (by kernel_rfl) (by kernel_rfl) ?_))))
     refine ah_t 0 (fun w9 hs => (hs.tail 1 rfl)) rfl rfl (by kernel_rfl) (q_loadAll (i := 0) rfl rfl Tryz.isAgg41 Tryz.sizeOf41 rfl) ?_
     refine ah_t 1 (fun w9 hs => (hs.tail 1 rfl)) rfl rfl (by kernel_rfl) (q_fieldAddr 0 rfl Tryz.runUnderlying41 rfl Tryz.sizeOf3 (by decide) rfl) (ah_t 2 (fun w9 hs => (hs.tail 1 rfl)) rfl rfl (by kernel_rfl) (q_load (i := 0) rfl rfl rfl Tryz.isAgg3) ?_)
     refine ah_t 3 (fun w9 hs => (hs.tail 1 rfl)) rfl rfl (by kernel_rfl) (q_fieldAddr 1 rfl Tryz.runUnderlying41 rfl Tryz.sizeOf3 (by decide) rfl) (ah_t 4 (fun w9 hs => (hs.tail 1 rfl)) rfl rfl (by kernel_rfl) (q_load (i := 0) rfl rfl rfl Tryz.isAgg3) (ah_t 5 (fun w9 hs => (hs.tail 1 rfl)) rfl rfl (by kernel_rfl) (q_leq rfl rfl) (ah_one 6 rfl (by kernel_rfl) (fun hok18 hcl18 => ?_))))
     refine al_storeAll (i := 0) rfl rfl rfl rfl Tryz.sizeOf41 rfl rfl .k0 rfl (al_end (ah_back hok18 hcl18 (fun w9 hs => (hs.tail 1 rfl)) ?_))
     refine ah_one 7 rfl (by kernel_rfl) (fun hok19 hcl19 => ?_)
     refine al_p (q_assign rfl) (al_end (ah_last (by kernel_rfl) ?_))
     refine aq_then (ac_ret (retR Tryz.results36 (.agg (i := 0) rfl rfl Tryz.isAgg41 Tryz.sizeOf41 rfl (.tmp rfl .nil)) .two (fun w9 hs => ?_)))
     have hA : allowL lo hi b n = (0, 1000000) := by
      unfold allowL possL
      first
      | (rw [if_pos (by omega)]; exact Prod.ext (by simp only; omega) (by simp only; omega))
      | (rw [if_neg (by omega), if_pos (by omega)]; exact Prod.ext (by simp only; omega) (by simp only; omega))
     exact ⟨0, 1000000, by rw [okAl, hA], fun _ => by rw [hA]; exact ⟨rfl, rfl⟩, hs.below⟩
set_option maxRecDepth 100000 in
theorem rready4_any (R : MachR) (M : MachD) (Q : CurR) (C : CurD) (F : Option Addr) (nf cf : Nat) (zs : List SpanD) (w : World) (hM : IsM w R M) (hC : IsC w Q C) (hF : IsT 2 SpanD.cells w F nf zs) (hn : nf ≤ 1000000000000000) : Calls Tryz.prog 32 #[(.agg (machCells R M)), Q.v, (.slice F nf cf)] w (Ret (.bool (explB M C zs)) w) := by
 refine calls_ax (vs := [(.agg (machCells R M)), Q.v, (.slice F nf cf)]) Tryz.func32 rfl rfl ?_
 refine ac_seq (ac_region ?_)
 refine al_new (fun b => .pointer (some ⟨b, 0, none⟩)) (r_box rfl rfl) rfl rfl rfl ?_
 intro b1
 refine al_new (fun b => .pointer (some ⟨b, 0, none⟩)) (r_box rfl rfl) rfl rfl rfl ?_
 intro b2
 refine al_p (q_assign rfl) (al_end (aq_then ?_))
 refine ac_seq (ac_region ?_)
 refine al_p (q_loadAll (i := 1) rfl rfl Tryz.isAgg29 Tryz.sizeOf29 rfl) (al_p (q_loadAll (i := 0) rfl rfl Tryz.isAgg32 Tryz.sizeOf32 rfl) (al_call Tryz.call54 (.cons rfl (.cons rfl .nil)) rfl rfl (fun w1 hs1 => ?_)))
 refine (rvalid2_any R M Q C _ (hM.below hs1.below) (hC.below hs1.below)).mono ?_
 rintro e u1 ⟨rfl, hb_1⟩
 refine ⟨_, rfl, hb_1, ?_⟩
 clear hs1
 refine al_p (q_move rfl) ?_
 refine aq_split 10 rfl (fun hb1 => ?_) (fun hb1 => ?_)
 ·have q1 : validC M C = true := hb1
  refine al_p (q_loadAll (i := 1) rfl rfl Tryz.isAgg29 Tryz.sizeOf29 rfl) (al_p (q_move rfl) (al_call Tryz.call72 (.cons rfl (.cons rfl .nil)) rfl rfl (fun w2 hs2 => ?_)))
  refine (rvalidReadings_any R M F nf cf zs _ (hM.below hs2.below) (hF.below hs2.below) hn).mono ?_
  rintro e u2 ⟨rfl, hb_2⟩
  refine ⟨_, rfl, hb_2, ?_⟩
  clear hs2
  refine al_p (q_pickT rfl rfl) (al_p (q_assign rfl) (al_end (aq_then ?_)))
  refine ac_ret (ret1 Tryz.results32 rfl (fun w9 hs => ?_))
  refine ⟨?_, hs.below⟩; rw [explB, q1]; rfl
 ·have q1 : validC M C = false := hb1
  refine al_skip rfl rfl rfl (al_skip rfl rfl rfl (al_skip rfl rfl rfl (al_p (q_pickF rfl rfl) (al_p (q_assign rfl) ?_))))
  refine al_end (aq_then ?_)
  refine ac_ret (ret1 Tryz.results32 rfl (fun w9 hs => ?_))
  refine ⟨?_, hs.below⟩; rw [explB, q1]; rfl
end
section
open Go.RowKit Go.Shelf
theorem toList_made2 (z : Value) (n : Nat) : (madeCells #[z, z] n).toList = List.replicate n z := by
 apply List.ext_getElem?
 intro j
 by_cases hj : j < n
 ·rcases Nat.mod_two_eq_zero_or_one j with h | h <;> simp [madeCells, hj, h, List.getElem?_replicate]
 ·simp [madeCells, hj, List.getElem?_replicate]
theorem RowL.made2 (W : World) (z : Value) (n : Nat) (t : TypeId) : RowL W.heap.size (List.replicate n z) (W.alloc (.cells (madeCells #[z, z] n) t)) := by
 have h := RowL.new W (madeCells #[z, z] n) t
 rwa [toList_made2] at h
theorem infoS : (Tryz.prog.info? 41).map (fun i => (i.zero, i.size, i.bytes)) = some (some (.agg #[.int .i64 0, .int .i64 0]), 2, 16) := by kernel_rfl
theorem run_make_span (t : TypeId) (ht : Tryz.prog.underlying t = some (.slice 41)) (n : Nat) (hn : n ≤ 100000) (w : World) :
  (Instr.makeSlice t (.int .i64 (n : Int)) (.int .i64 (n : Int))).run Tryz.prog w = .ok (.slice (some ⟨w.heap.size, 0, none⟩) n n) (w.alloc (.cells (madeCells #[.int .i64 0, .int .i64 0] (n * 2)) 41)) := by
 obtain ⟨i, hi, hzz⟩ := Option.map_eq_some_iff.1 infoS
 simp only [Prod.mk.injEq] at hzz
 obtain ⟨hz, hs, hb⟩ := hzz
 have h := run_make (P := Tryz.prog) w t 41 i _ ht hi hz .i64 .i64 n n (by omega) (Int.le_refl _) (by rw [hb]; omega) (by omega)
 simp only [Int.toNat_natCast, hs] at h
 exact h
theorem flat2 : ∀ (l : List SpanD) (j : Nat) (x : SpanD), l[j]? = some x → (l.flatMap SpanD.cells)[j * 2]? = some (.int .i64 x.lo) ∧ (l.flatMap SpanD.cells)[j * 2 + 1]? = some (.int .i64 x.hi)
 | [], j, x, h => by simp at h
 | y :: r, 0, x, h => by
  obtain rfl : y = x := by simpa using h
  simp [SpanD.cells]
 | y :: r, j + 1, x, h => by
  have h' : r[j]? = some x := by simpa using h
  obtain ⟨a, b⟩ := flat2 r j x h'
  rw [List.flatMap_cons, show (j + 1) * 2 = (j * 2) + 2 by omega]
  refine ⟨?_, ?_⟩
  ·rw [List.getElem?_append_right (by simp [SpanD.cells])]; simpa [SpanD.cells] using a
  ·rw [List.getElem?_append_right (by simp [SpanD.cells])]; simpa [SpanD.cells] using b
theorem flat2_len : ∀ l : List SpanD, (l.flatMap SpanD.cells).length = l.length * 2
 | [] => rfl
 | y :: r => by rw [List.flatMap_cons, List.length_append, flat2_len r]; simp [SpanD.cells]; omega
theorem backL_bd (M : MachD) (C : CurD) (s : Int) : -50000000000000000 ≤ (backL M C s).1 ∧ (backL M C s).1 ≤ 50000000000000000 := by
 unfold backL
 cases hv : validC M C
 ·rw [if_neg (by decide)]; dsimp only; omega
 ·rw [if_pos rfl]
  have hd := dark_fit (fit2_iff.1 hv)
  unfold exactL
  rw [fit2_iff.2 hd, if_pos rfl]
  split
  ·split
   ·exact sensP_bd (small_of hd) _
   ·dsimp only; omega
  ·dsimp only; omega
theorem respL_val {M : MachD} (h : checkC M = 0) {s cell : Int} (hs : wthn s 0 ((M.sensors.length : Int) - 1) = true) (hc : wthn cell 0 (M.grid.nr * M.grid.nz - 1) = true) {x : SensorD} (hx : M.sensors[s.toNat]? = some x) :
  respL M s cell = (sensOne x (cellR M.grid cell) (cellZ M.grid cell), 0) := by
 have hcl : cellL M cell = (cellR M.grid cell, cellZ M.grid cell, 0) := by
  unfold cellL
  rw [if_pos h, if_pos hc]
 have b := wthn_iff.1 hc
 unfold respL
 rw [hcl, if_pos rfl, hs, if_pos rfl, hx]
 dsimp only
 rw [alone_exact h (List.mem_of_getElem? hx) (cell_near h (by omega) (by omega))]
theorem respL_bd (M : MachD) (s cell : Int) : -250000 ≤ (respL M s cell).1 ∧ (respL M s cell).1 ≤ 250000 := by
 by_cases h : checkC M = 0
 ·cases hs : wthn s 0 ((M.sensors.length : Int) - 1)
  ·unfold respL; rw [hs]; split <;> simp
  ·cases hc : wthn cell 0 (M.grid.nr * M.grid.nz - 1)
   ·unfold respL cellL; rw [if_pos h, hc]; simp
   ·have c := wthn_iff.1 hs
    obtain ⟨x, hx⟩ : ∃ x, M.sensors[s.toNat]? = some x := ⟨_, List.getElem?_eq_getElem (by omega)⟩
    rw [respL_val h hs hc hx]
    exact sensOne_bd _ _ _
 ·unfold respL cellL; rw [if_neg h]; simp
def clF (M : MachD) (bs : List Int) (zs : List SpanD) (cell : Int) (k : Nat) : SpanD :=
 ⟨(allowL (zs.getD k ⟨0, 0⟩).lo (zs.getD k ⟨0, 0⟩).hi (bs.getD k 0) (respL M k cell).1).1, (allowL (zs.getD k ⟨0, 0⟩).lo (zs.getD k ⟨0, 0⟩).hi (bs.getD k 0) (respL M k cell).1).2⟩
def clL (M : MachD) (bs : List Int) (zs : List SpanD) (cell : Int) : List SpanD := (List.range M.sensors.length).map (clF M bs zs cell)
theorem clL_get {M : MachD} {bs : List Int} {zs : List SpanD} {cell : Int} {k : Nat} (h : k < M.sensors.length) : (clL M bs zs cell)[k]? = some (clF M bs zs cell k) := by
 unfold clL
 simp [h]
theorem clL_len (M : MachD) (bs : List Int) (zs : List SpanD) (cell : Int) : (clL M bs zs cell).length = M.sensors.length := by
 unfold clL; simp
end
end Go.Proofs.YtapldonpflgnfaaGreatDoor
