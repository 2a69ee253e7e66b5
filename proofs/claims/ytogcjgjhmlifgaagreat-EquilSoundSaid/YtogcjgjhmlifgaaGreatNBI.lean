import Derived.Test.YtogcjgjhmlifgaaGreatNAA
import Derived.Test.YtogcjgjhmlifgaaGreatNAW
import Derived.Test.YtogcjgjhmlifgaaGreatNAY
import Derived.Test.YtogcjgjhmlifgaaGreatNAZ
import Derived.Test.YtogcjgjhmlifgaaGreatNBH
import Derived.Test.YtogcjgjhmlifgaaGreatRows
import Derived.KernelRfl
import Derived.Laws.StructEq
namespace Go.Proofs.YtogcjgjhmlifgaaGreat
set_option linter.unusedVariables false
set_option linter.unusedSimpArgs false
section
open Go.RowKit
def lessL (a b c d : Int) : Int := if (vld a b && vld c d) = true then (if b < c then 1 else if d ≤ a then 0 else 2) else 2
set_option maxHeartbeats 1000000 in
theorem less_any (a b c d : Int) (w : World) : Calls Tryz.prog 62 #[Sp a b, Sp c d] w (Ret (.int .i64 (lessL a b c d)) w) := by
  by_cases v1 : vld a b = true
  · by_cases v2 : vld c d = true
    · have o1 := (vld_iff.1 v1).1
      have o2 := (vld_iff.1 v2).1
      have hv : (vld a b && vld c d) = true := by simp [v1, v2]
      by_cases h1 : b < c
      · have e : lessL a b c d = 1 := by unfold lessL; rw [if_pos hv, if_pos h1]
        rw [e]
        clear e hv
        go_enter Tryz.func62, Tryz.ntmps62
        go_wp2_with (go_at_call 96; refine (valid_any _ _ _).mono ?_; rintro e w1 ⟨rfl, hb⟩; have hB : Below w.heap.size w w1 := Below.trans (by (with_reducible repeat first | exact Below.refl _ _ | assumption | ((first | refine Below.setCell ?_ ?_ _ | refine Below.alloc ?_ ?_ _); rotate_left; exact (by first | omega | (simp; done) | (simp; omega))) | refine Below.drew ?_ | refine Below_drewN ?_ _)) (hb.mono (by first | omega | (simp; done) | (simp; omega))); obtain ⟨hc, hf⟩ := bcell hb; have hs := hb.size; clear hb; (try simp only [World.size_alloc, World.size_setCell] at hc hf); (try simp only [World.size_alloc, World.size_setCell] at hs); (try have hs' := Nat.lt_of_succ_le hs); (try have hs0 : w.heap.size < w1.heap.size := by omega); (try have hs1 : w.heap.size + 1 < w1.heap.size := by omega); (try have hs2 : w.heap.size + 1 + 1 < w1.heap.size := by omega); (try have hs3 : w.heap.size + 1 + 1 + 1 < w1.heap.size := by omega))
        go_ret
        exact ⟨rfl, by (with_reducible repeat first | exact Below.refl _ _ | assumption | ((first | refine Below.setCell ?_ ?_ _ | refine Below.alloc ?_ ?_ _); rotate_left; exact (by first | omega | (simp; done) | (simp; omega))) | refine Below.drew ?_ | refine Below_drewN ?_ _)⟩
      · by_cases h2 : d ≤ a
        · have e : lessL a b c d = 0 := by unfold lessL; rw [if_pos hv, if_neg h1, if_pos h2]
          rw [e]
          clear e hv
          go_enter Tryz.func62, Tryz.ntmps62
          go_wp2_with (go_at_call 96; refine (valid_any _ _ _).mono ?_; rintro e w1 ⟨rfl, hb⟩; have hB : Below w.heap.size w w1 := Below.trans (by (with_reducible repeat first | exact Below.refl _ _ | assumption | ((first | refine Below.setCell ?_ ?_ _ | refine Below.alloc ?_ ?_ _); rotate_left; exact (by first | omega | (simp; done) | (simp; omega))) | refine Below.drew ?_ | refine Below_drewN ?_ _)) (hb.mono (by first | omega | (simp; done) | (simp; omega))); obtain ⟨hc, hf⟩ := bcell hb; have hs := hb.size; clear hb; (try simp only [World.size_alloc, World.size_setCell] at hc hf); (try simp only [World.size_alloc, World.size_setCell] at hs); (try have hs' := Nat.lt_of_succ_le hs); (try have hs0 : w.heap.size < w1.heap.size := by omega); (try have hs1 : w.heap.size + 1 < w1.heap.size := by omega); (try have hs2 : w.heap.size + 1 + 1 < w1.heap.size := by omega); (try have hs3 : w.heap.size + 1 + 1 + 1 < w1.heap.size := by omega))
          go_ret
          exact ⟨rfl, by (with_reducible repeat first | exact Below.refl _ _ | assumption | ((first | refine Below.setCell ?_ ?_ _ | refine Below.alloc ?_ ?_ _); rotate_left; exact (by first | omega | (simp; done) | (simp; omega))) | refine Below.drew ?_ | refine Below_drewN ?_ _)⟩
        · have e : lessL a b c d = 2 := by unfold lessL; rw [if_pos hv, if_neg h1, if_neg h2]
          rw [e]
          clear e hv
          go_enter Tryz.func62, Tryz.ntmps62
          go_wp2_with (go_at_call 96; refine (valid_any _ _ _).mono ?_; rintro e w1 ⟨rfl, hb⟩; have hB : Below w.heap.size w w1 := Below.trans (by (with_reducible repeat first | exact Below.refl _ _ | assumption | ((first | refine Below.setCell ?_ ?_ _ | refine Below.alloc ?_ ?_ _); rotate_left; exact (by first | omega | (simp; done) | (simp; omega))) | refine Below.drew ?_ | refine Below_drewN ?_ _)) (hb.mono (by first | omega | (simp; done) | (simp; omega))); obtain ⟨hc, hf⟩ := bcell hb; have hs := hb.size; clear hb; (try simp only [World.size_alloc, World.size_setCell] at hc hf); (try simp only [World.size_alloc, World.size_setCell] at hs); (try have hs' := Nat.lt_of_succ_le hs); (try have hs0 : w.heap.size < w1.heap.size := by omega); (try have hs1 : w.heap.size + 1 < w1.heap.size := by omega); (try have hs2 : w.heap.size + 1 + 1 < w1.heap.size := by omega); (try have hs3 : w.heap.size + 1 + 1 + 1 < w1.heap.size := by omega))
          go_ret
          exact ⟨rfl, by (with_reducible repeat first | exact Below.refl _ _ | assumption | ((first | refine Below.setCell ?_ ?_ _ | refine Below.alloc ?_ ?_ _); rotate_left; exact (by first | omega | (simp; done) | (simp; omega))) | refine Below.drew ?_ | refine Below_drewN ?_ _)⟩
    · have e : lessL a b c d = 2 := by simp [lessL, v2]
      rw [e]
      clear e
      go_enter Tryz.func62, Tryz.ntmps62
      go_wp2_with (go_at_call 96; refine (valid_any _ _ _).mono ?_; rintro e w1 ⟨rfl, hb⟩; have hB : Below w.heap.size w w1 := Below.trans (by (with_reducible repeat first | exact Below.refl _ _ | assumption | ((first | refine Below.setCell ?_ ?_ _ | refine Below.alloc ?_ ?_ _); rotate_left; exact (by first | omega | (simp; done) | (simp; omega))) | refine Below.drew ?_ | refine Below_drewN ?_ _)) (hb.mono (by first | omega | (simp; done) | (simp; omega))); obtain ⟨hc, hf⟩ := bcell hb; have hs := hb.size; clear hb; (try simp only [World.size_alloc, World.size_setCell] at hc hf); (try simp only [World.size_alloc, World.size_setCell] at hs); (try have hs' := Nat.lt_of_succ_le hs); (try have hs0 : w.heap.size < w1.heap.size := by omega); (try have hs1 : w.heap.size + 1 < w1.heap.size := by omega); (try have hs2 : w.heap.size + 1 + 1 < w1.heap.size := by omega); (try have hs3 : w.heap.size + 1 + 1 + 1 < w1.heap.size := by omega))
      go_ret
      exact ⟨rfl, by (with_reducible repeat first | exact Below.refl _ _ | assumption | ((first | refine Below.setCell ?_ ?_ _ | refine Below.alloc ?_ ?_ _); rotate_left; exact (by first | omega | (simp; done) | (simp; omega))) | refine Below.drew ?_ | refine Below_drewN ?_ _)⟩
  · have e : lessL a b c d = 2 := by simp [lessL, v1]
    rw [e]
    clear e
    go_enter Tryz.func62, Tryz.ntmps62
    go_wp2_with (go_at_call 96; refine (valid_any _ _ _).mono ?_; rintro e w1 ⟨rfl, hb⟩; have hB : Below w.heap.size w w1 := Below.trans (by (with_reducible repeat first | exact Below.refl _ _ | assumption | ((first | refine Below.setCell ?_ ?_ _ | refine Below.alloc ?_ ?_ _); rotate_left; exact (by first | omega | (simp; done) | (simp; omega))) | refine Below.drew ?_ | refine Below_drewN ?_ _)) (hb.mono (by first | omega | (simp; done) | (simp; omega))); obtain ⟨hc, hf⟩ := bcell hb; have hs := hb.size; clear hb; (try simp only [World.size_alloc, World.size_setCell] at hc hf); (try simp only [World.size_alloc, World.size_setCell] at hs); (try have hs' := Nat.lt_of_succ_le hs); (try have hs0 : w.heap.size < w1.heap.size := by omega); (try have hs1 : w.heap.size + 1 < w1.heap.size := by omega); (try have hs2 : w.heap.size + 1 + 1 < w1.heap.size := by omega); (try have hs3 : w.heap.size + 1 + 1 + 1 < w1.heap.size := by omega))
    go_ret
    exact ⟨rfl, by (with_reducible repeat first | exact Below.refl _ _ | assumption | ((first | refine Below.setCell ?_ ?_ _ | refine Below.alloc ?_ ?_ _); rotate_left; exact (by first | omega | (simp; done) | (simp; omega))) | refine Below.drew ?_ | refine Below_drewN ?_ _)⟩
theorem less_is {a b c d v : Int} (h : lessL a b c d = v) (w : World) : Calls Tryz.prog 62 #[Sp a b, Sp c d] w (Ret (.int .i64 v) w) := by rw [← h]; exact less_any a b c d w
end
section
open Go.RowKit
theorem chk_bn (M : MachD) (C : CurD) (xs : List SpanD) : chkE (validC M C && boxB M 1000000 xs) (wthn 1000000 1 1000000) = bnE M C xs := by
  have h : wthn 1000000 1 1000000 = true := by decide
  rw [h]
  rfl
theorem checkBn_any (R : MachR) (M : MachD) (Q : CurR) (C : CurD) (X : Option Addr) (nx cx : Nat) (xs : List SpanD) (w : World) (hM : IsM w R M) (hC : IsC w Q C) (hS : IsT 2 SpanD.cells w X nx xs) : Calls Tryz.prog 59 #[.agg (mCs R M).toArray, .agg (cCs Q).toArray, .int .i64 1000000, .slice X nx cx] w (Ret (.int .i64 (bnE M C xs)) w) := by
  have h := checkBox_any R M Q C w hM hC X nx cx xs 1000000 hS
  rwa [chk_bn] at h
def ixC (f : Nat → Int) (n k : Nat) : List Value := lst n fun j => .int .i64 (if j < k then f j else 0)
theorem ixC_zero (f : Nat → Int) (n : Nat) : ixC f n 0 = List.replicate n (.int .i64 0) := by
  refine List.ext_getElem? fun j => ?_
  unfold ixC
  by_cases h : j < n
  · rw [lst_get _ h]; simp [h]
  · rw [List.getElem?_eq_none (by rw [lst_length]; omega), List.getElem?_eq_none (by simp; omega)]
theorem ixC_set {f : Nat → Int} {n k : Nat} {v : Int} (hv : f k = v) : (ixC f n k).set k (.int .i64 v) = ixC f n (k + 1) := by
  refine lst_set (by rw [if_pos (by omega), hv]) fun j hj hne => ?_
  by_cases h : j < k
  · rw [if_pos h, if_pos (by omega)]
  · rw [if_neg h, if_neg (by omega)]
theorem ixC_all {f : Nat → Int} {n : Nat} : ixC f n n = (lst n f).flatMap intCells := by
  rw [flat_int]
  refine List.ext_getElem? fun j => ?_
  unfold ixC
  by_cases h : j < n
  · rw [lst_get _ h, List.getElem?_map, lst_get _ h, if_pos h]; rfl
  · rw [List.getElem?_eq_none (by rw [lst_length]; omega), List.getElem?_eq_none (by simp [lst_length]; omega)]
theorem less_val {a b c d : Int} (h1 : vld a b = true) (h2 : vld c d = true) : lessL a b c d = if b < c then 1 else if d ≤ a then 0 else 2 := by
  unfold lessL; rw [if_pos (by rw [h1, h2]; rfl)]
theorem flS_vld {M : MachD} {C : CurD} {t : Int} {xs : List SpanD} (hf : Fit2 M C) (hX : FitX M t xs) (ht : t ≤ 1000000) (p : PointD) : vld (flS M C xs p).lo (flS M C xs p).hi = true := vld_iff.2 (by have := flS_bd hf hX ht p; omega)
theorem bdS_vld {M : MachD} {C : CurD} {t : Int} {xs : List SpanD} (hf : Fit2 M C) (hX : FitX M t xs) (ht : t ≤ 1000000) : vld (bdS M C xs).lo (bdS M C xs).hi = true := vld_iff.2 (by have := bdS_bd hf hX ht; omega)
theorem less_side {M : MachD} {C : CurD} {t : Int} {xs : List SpanD} (hf : Fit2 M C) (hX : FitX M t xs) (ht : t ≤ 1000000) {k : Nat} (hk : k < cellN M) : lessL (bdS M C xs).lo (bdS M C xs).hi (flS M C xs (ptA M k)).lo (flS M C xs (ptA M k)).hi = sdA M C xs k := by
  rw [less_val (bdS_vld hf hX ht) (flS_vld hf hX ht _), ptA_cell hk]; rfl
set_option maxRecDepth 100000 in
theorem sides_any (R : MachR) (M : MachD) (Q : CurR) (C : CurD)   (X : Option Addr) (nx cx : Nat) (xs : List SpanD) (w : World) (hM : IsM w R M) (hC : IsC w Q C) (hS : IsT 2 SpanD.cells w X nx xs) (hlx : nx ≤ 1000000000000000) : Calls Tryz.prog 25 #[(.agg (mCs R M).toArray), (.agg (cCs Q).toArray), (.slice X nx cx)] w (OutT 1 intCells w (bnE M C xs) (sdL M C xs)) := by
  refine calls_ax (vs := [(.agg (mCs R M).toArray), (.agg (cCs Q).toArray), (.slice X nx cx)]) Tryz.func25 rfl rfl ?_
  refine ac_seq (ac_region ?_)
  refine al_new (fun b => .pointer (some ⟨b, 0, none⟩)) (r_box rfl rfl) rfl rfl rfl ?_
  intro b1
  refine al_new (fun b => .pointer (some ⟨b, 0, none⟩)) (r_box rfl rfl) rfl rfl rfl ?_
  intro b2
  refine al_p (q_assign rfl) (al_p (q_assign rfl) (al_end (aq_then ?_)))
  refine ac_seq (ac_seq (ac_region ?_))
  refine al_p (q_loadAll (i := 1) rfl rfl Tryz.isAgg29 Tryz.sizeOf29 rfl) (al_p (q_loadAll (i := 0) rfl rfl Tryz.isAgg32 Tryz.sizeOf32 rfl) (al_p (q_move rfl) (al_call Tryz.call59 (.cons rfl (.cons rfl (.cons rfl (.cons rfl .nil)))) rfl rfl (fun w1 hs1 => ?_))))
  refine (checkBn_any R M Q C X nx cx xs _ (hM.below hs1.below) (hC.below hs1.below) (hS.below hs1.below)).mono ?_
  rintro e u1 ⟨rfl, hb_1⟩
  refine ⟨_, rfl, hb_1, ?_⟩
  clear hs1
  refine al_p (q_assign rfl) (al_end (aq_then ?_))
  refine ac_seq (ac_region ?_)
  refine al_p (q_move rfl) (al_p (q_neq rfl rfl) (al_end (aq_then ?_)))
  refine ac_cond rfl (fun h1 => ?_) (fun h1 => ?_)
  · have hne := bne_iff_ne.1 h1
    obtain ⟨e1, e2⟩ := bn_bad hne
    refine ac_seq (ac_region ?_)
    refine al_p (q_move rfl) (al_p (q_assign rfl) (al_p (q_assign rfl) (al_end (aq_then ?_))))
    refine ac_ret (aq_thenR (ret2 Tryz.results25 rfl rfl (fun w9 hs => ?_)))
    unfold sdL; rw [e1, e2]; exact OutT.nil hs.below
  · have hok : bnE M C xs = 0 := by simpa using h1
    obtain ⟨hf, hX, e1⟩ := bn_ok hok
    have hcn := cellN_eq hX.check
    have ht : (1000000 : Int) ≤ 1000000 := by omega
    have n1 := hS.1
    have n2 := hX.len
    have n3 := hM.limits.1
    have hlp := limits_pos hX.check
    have hlm := limits_most hX.check
    have hpm : ptN M - nx = R.lc ∧ nx ≤ ptN M := by unfold ptN; omega
    refine ac_skip (aq_then (ac_seq (ac_region ?_)))
    refine al_p (q_loadAll (i := 1) rfl rfl Tryz.isAgg29 Tryz.sizeOf29 rfl) (al_p (q_loadAll (i := 0) rfl rfl Tryz.isAgg32 Tryz.sizeOf32 rfl) (al_call Tryz.call60 (.cons rfl (.cons rfl .nil)) rfl rfl (fun w2 hs2 => ?_)))
    refine (fieldOf_any R M Q C _ (hM.below hs2.below) (hC.below hs2.below) hf).mono ?_
    rintro e u2 ⟨A1, c1, A2, c2, rfl, k1_, k2_, hb_2⟩
    have hc2 := k2_.le.1
    refine ⟨_, rfl, hb_2, ?_⟩
    clear hs2
    refine al_p (q_move rfl) (al_callS Tryz.call61 (.cons rfl (.cons rfl .nil)) rfl rfl (fun w3 hs3 => ?_))
    refine (parts_any M C A1 A2 X c1 c2 nx cx xs 1000000 _ hf hX ht (hs3.newT (.head _) k1_) (hs3.newT (.head _) k2_) hc2 (hS.below hs3.below)).mono ?_
    rintro e u3 ⟨bF, rfl, hb_3⟩
    refine ⟨_, _, _, rfl, hs3.gift hb_3, ?_⟩
    refine al_p (q_move rfl) (al_p (q_extract rfl rfl) (al_p (q_extract rfl rfl) (al_p (q_extract rfl rfl) (al_new (fun b => .pointer (some ⟨b, 0, none⟩)) (r_alloc Tryz.zeroValue52 rfl) rfl rfl rfl ?_))))
    intro b3
    refine al_p (q_assign rfl) (al_p (q_assign rfl) (al_storeAll (i := 0) rfl rfl rfl rfl Tryz.sizeOf52 rfl rfl .k0 rfl (al_end (aq_then ?_))))
    refine ac_seq (ac_region ?_)
    refine al_p (q_move rfl) (al_p (q_lenS rfl Tryz.runUnderlying45) ?_)
    refine al_makeInts (n := nx) (z := (.int .i64 0)) (bytes := 8) rfl rfl rfl Tryz.underlying56 (by kernel_rfl) rfl (by omega) (by decide) rfl rfl ?_
    intro b4
    refine al_p (q_assign rfl) (al_end (aq_then ?_))
    refine ac_seq (ac_seq (ac_region ?_))
    refine al_p (q_move rfl) (al_p (q_lenS rfl Tryz.runUnderlying45) (al_p (q_move rfl) (al_end (aq_then ?_))))
    refine ac_block ?_
    refine ac_loop (β := Nat) (fun k => k ≤ nx) (fun k => [(6, (.slice none 0 0)), (7, (.int .i64 0)), (11, (.pointer (some ⟨b3, 0, none⟩))), (12, (.slice (some ⟨b4, 0, none⟩) (nx) (nx))), (34, (.slice (some ⟨bF, 0, none⟩) nx (ptN M))), (35, (.int .i64 (nx : Int))), (36, (.int .i64 (k : Int)))]) (fun _ => _) (fun k => [(b4, .cells (ixC (sdA M C xs) nx k)), (b3, _), (bF, _), (b2, _), (b1, _)]) (fun k => nx - k) 0 (by omega) ⟨rfl, rfl, rfl, rfl, rfl, rfl, rfl, trivial⟩ (fun w9 hs => (by rw [ixC_zero]; exact hs)) (fun k hF1 => ?_)
    refine ac_seq (ac_region ?_)
    refine al_p (q_lss rfl rfl) (al_end (aq_then ?_))
    refine ac_seq ?_
    refine ac_cond rfl (fun h2 => ?_) (fun h2 => ?_)
    · have hkn : k < nx := by have := of_decide_eq_true h2; omega
      have hpt := spmix_old (n := ptN M) (fun j => flS M C xs (ptA M j)) (k := k) (by omega)
      refine ac_skip (aq_then (ac_seq (ac_block (ac_seq (ac_region ?_)))))
      refine al_p (q_move rfl) ?_
      refine al_p (q_indexAddr (i := k) (0 + k * 2 + 0) rfl rfl rfl (by omega) Tryz.runUnderlying45 Tryz.sizeOf52 rfl) (al_p (q_loadXs (SpanD.cells (flS M C xs (ptA M k))) rfl Tryz.isAgg52 Tryz.sizeOf52 (fun w9 hs j9 v9 h9 => by rw [addr_add]; exact ((hs.at 2 rfl).cell _ rfl _ _ (hpt j9 v9 h9)).1) rfl) (al_new (fun b => .pointer (some ⟨b, 0, none⟩)) (r_alloc Tryz.zeroValue52 rfl) rfl rfl rfl ?_))
      intro b5
      refine al_p (q_assign rfl) (al_storeAll (i := 0) rfl rfl rfl rfl Tryz.sizeOf52 rfl rfl .k0 rfl (al_end (aq_then ?_)))
      refine ac_region (al_p (q_move rfl) (al_p (q_move rfl) (al_p (q_loadAll (i := 2) rfl rfl Tryz.isAgg52 Tryz.sizeOf52 rfl) (al_p (q_loadAll (i := 0) rfl rfl Tryz.isAgg52 Tryz.sizeOf52 rfl) ?_))))
      refine al_call Tryz.call62 (.cons rfl (.cons rfl .nil)) rfl rfl (fun w4 hs4 => ?_)
      refine (less_is (less_side hf hX ht (k := k) (by omega)) _).mono ?_
      rintro e u4 ⟨rfl, hb_4⟩
      refine ⟨_, rfl, hb_4, ?_⟩
      clear hs4
      refine al_p (q_indexAddr (i := k) (k) rfl rfl rfl (by omega) Tryz.runUnderlying56 Tryz.sizeOf59 (by omega)) ?_
      refine al_store1 (i := 1) rfl rfl rfl rfl Tryz.sizeOf59 (SetAt.ofSet (by unfold ixC; rw [lst_length]; omega)) .k1 rfl (al_end (aq_inN (aq_then (ac_region ?_))))
      refine al_p (q_add rfl rfl (by omega)) (al_p (q_move rfl) (al_end (aq_then ?_)))
      skip
      refine aq_round (k + 1) (by omega) (by omega) ⟨rfl, rfl, rfl, rfl, rfl, rfl, rfl, trivial⟩ (fun w9 hs => (by rw [← ixC_set (f := sdA M C xs) (n := nx) (k := k) rfl]; exact ((hs.fewer 1 rfl).tail 1 rfl)))
    · have hke : k = nx := by have := of_decide_eq_false h2; omega
      refine ac_exit (aq_thenE (aq_thenE (aq_hit (aq_then ?_))))
      refine ac_seq (ac_region ?_)
      refine al_p (q_move rfl) (al_p (q_assign rfl) (al_p (q_assign rfl) (al_end (aq_then ?_))))
      refine ac_ret (ret2 Tryz.results25 rfl rfl (fun w9 hs => ?_))
      rw [hok]; unfold sdL; rw [if_pos (bnV_ok hok)]; rw [hke] at hs; exact OutT.ok (n := nx) ⟨isT_box0 (n := 1) (enc := intCells) (zs := lst (cellN M) (sdA M C xs)) (fun _ => rfl) (hs.at 0 rfl) (by rw [show nx = cellN M by omega]; exact ixC_all.symm) (by rw [lst_length]; omega), hs.new 0 rfl, by omega, by omega⟩ hs.below
end
end Go.Proofs.YtogcjgjhmlifgaaGreat
