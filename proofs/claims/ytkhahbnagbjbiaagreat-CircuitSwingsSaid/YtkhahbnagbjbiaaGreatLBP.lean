import Derived.Test.YtkhahbnagbjbiaaGreatLAR
import Derived.Test.YtkhahbnagbjbiaaGreatLAU
import Derived.Test.YtkhahbnagbjbiaaGreatLBM
import Derived.Test.YtkhahbnagbjbiaaGreatLBN
import Derived.Test.YtkhahbnagbjbiaaGreatLBO
import Derived.Test.YtkhahbnagbjbiaaGreatRows
import Derived.KernelRfl
import Derived.Laws.StructEq
section
/- Swing on both sides, over this seat's translation (written by ax_ci31.py). -/
namespace Go.Proofs.YtkhahbnagbjbiaaGreat
set_option linter.unusedVariables false
set_option linter.unusedSimpArgs false
open Go.RowKit

def xA (xs : List (StR × StD)) (k : Nat) : StR × StD := xs.getD k (zeroR, zeroD)
theorem xA_get {xs : List (StR × StD)} {k : Nat} (h : k < xs.length) : xs[k]? = some (xA xs k) := getD_get h
theorem xA_mem {xs : List (StR × StD)} {k : Nat} (h : k < xs.length) : xA xs k ∈ xs := List.mem_of_getElem? (xA_get h)
theorem xA_of {xs : List (StR × StD)} {k : Nat} {x : StR × StD} (h : xs[k]? = some x) : xA xs k = x := by simp [xA, List.getD_eq_getElem?_getD, h]
def lkS (M : MachD) (xs : List (StR × StD)) (k : Nat) : Int := (linkedE M (xA xs k).2.C).1
def pvS (M : MachD) (xs : List (StR × StD)) : Nat → Int
  | 0 => 0
  | k + 1 => lkS M xs k
theorem linkedS_any (R : MachR) (M : MachD) (xs : List (StR × StD)) (k : Nat) (w : World) (hM : IsM w R M) (hC : IsC w (xA xs k).1.Q (xA xs k).2.C) : Calls Tryz.prog 43 #[.agg (machCells R M), (xA xs k).1.Q.v] w (Ret (.tuple #[.int .i64 (lkS M xs k), .int .i64 (linkedE M (xA xs k).2.C).2]) w) := linked_any R M _ _ w hM hC
theorem rlinkedS_any (R : MachR) (M : MachD) (xs : List (StR × StD)) (k : Nat) (w : World) (hM : IsM w R M) (hC : IsC w (xA xs k).1.Q (xA xs k).2.C) : Calls Tryz.prog 45 #[.agg (machCells R M), (xA xs k).1.Q.v] w (Ret (.tuple #[.int .i64 (lkS M xs k), .int .i64 (linkedE M (xA xs k).2.C).2]) w) := rLinked_any R M _ _ w hM hC
def swd (M : MachD) (xs : List (StR × StD)) (k : Nat) : Int := if k = 0 then 0 else max (lkS M xs k - pvS M xs k) (pvS M xs k - lkS M xs k)
def allV (M : MachD) (xs : List (StR × StD)) : Prop := ∀ k, k < xs.length → validS M (xA xs k).2 = true
instance (M : MachD) (xs : List (StR × StD)) : Decidable (allV M xs) := Nat.decidableBallLT xs.length (fun k _ => validS M (xA xs k).2 = true)
def swL (M : MachD) (xs : List (StR × StD)) : Int × Int := if checkC M = 0 ∧ allV M xs then (dotTo (swd M xs) xs.length, 0) else (0, 1)
theorem lkS_bd (M : MachD) (xs : List (StR × StD)) (k : Nat) : -25000000000000000 ≤ lkS M xs k ∧ lkS M xs k ≤ 25000000000000000 := by
  unfold lkS linkedE
  split
  · rename_i h
    exact Small.bd (small_of (alone_fit (fit2_iff.1 h))) _
  · simp
theorem pvS_bd (M : MachD) (xs : List (StR × StD)) (k : Nat) : -25000000000000000 ≤ pvS M xs k ∧ pvS M xs k ≤ 25000000000000000 := by
  cases k with
  | zero => simp [pvS]
  | succ k => exact lkS_bd M xs k
theorem swd_bd (M : MachD) (xs : List (StR × StD)) (k : Nat) : 0 ≤ swd M xs k ∧ swd M xs k ≤ 50000000000000000 := by
  have := lkS_bd M xs k
  have := pvS_bd M xs k
  unfold swd; split <;> omega
theorem sum_bd (M : MachD) (xs : List (StR × StD)) : ∀ k : Nat, 0 ≤ dotTo (swd M xs) k ∧ dotTo (swd M xs) k ≤ (k : Int) * 50000000000000000
  | 0 => by simp [dotTo]
  | k + 1 => by
    have h1 := sum_bd M xs k
    have h2 := swd_bd M xs k
    simp only [dotTo]; omega
theorem xA_take {xs : List (StR × StD)} {m k : Nat} (h : k < m) : xA (xs.take m) k = xA xs k := by
  simp [xA, List.getD_eq_getElem?_getD, List.getElem?_take, h]
theorem xA_drop (xs : List (StR × StD)) (h k : Nat) : xA (xs.drop h) k = xA xs (h + k) := by
  simp [xA, List.getD_eq_getElem?_getD, List.getElem?_drop]
theorem swd_take {M : MachD} {xs : List (StR × StD)} {m k : Nat} (h : k < m) : swd M (xs.take m) k = swd M xs k := by
  cases k with
  | zero => rfl
  | succ k => simp only [swd, pvS, lkS]; rw [xA_take h, xA_take (by omega)]
theorem swd_drop (M : MachD) (xs : List (StR × StD)) (h k : Nat) : swd M (xs.drop h) (k + 1) = swd M xs (h + (k + 1)) := by
  have e : pvS M xs (h + (k + 1)) = lkS M xs (h + k) := rfl
  simp only [swd, e]
  rw [if_neg (by omega), if_neg (by omega)]
  simp only [pvS, lkS, xA_drop]
theorem sum_drop (M : MachD) (xs : List (StR × StD)) (h : Nat) : ∀ m : Nat, dotTo (swd M (xs.drop h)) (m + 1) + dotTo (swd M xs) (h + 1) = dotTo (swd M xs) (h + 1 + m)
  | 0 => by
    have : swd M (xs.drop h) 0 = 0 := rfl
    simp [dotTo, this]
  | m + 1 => by
    have ih := sum_drop M xs h m
    have e : dotTo (swd M (xs.drop h)) (m + 1 + 1) = dotTo (swd M (xs.drop h)) (m + 1) + swd M (xs.drop h) (m + 1) := rfl
    have e2 : dotTo (swd M xs) (h + 1 + (m + 1)) = dotTo (swd M xs) (h + 1 + m) + swd M xs (h + 1 + m) := rfl
    rw [e, e2, swd_drop, show h + (m + 1) = h + 1 + m by omega]
    omega
/-- a swing adds up over a list that is cut in two -/
theorem sw_cut {M : MachD} {xs : List (StR × StD)} {h : Nat} (hh : h < xs.length) (hE : (swL M xs).2 = 0) : (swL M (xs.take (h + 1))).2 = 0 ∧ (swL M (xs.drop h)).2 = 0 ∧ (swL M (xs.take (h + 1))).1 + (swL M (xs.drop h)).1 = (swL M xs).1 := by
  have hv : checkC M = 0 ∧ allV M xs := by
    unfold swL at hE; split at hE
    · assumption
    · cases hE
  have h1 : allV M (xs.take (h + 1)) := fun k hk => by
    rw [List.length_take] at hk
    rw [xA_take (by omega)]; exact hv.2 k (by omega)
  have h2 : allV M (xs.drop h) := fun k hk => by
    rw [List.length_drop] at hk
    rw [xA_drop]; exact hv.2 _ (by omega)
  unfold swL
  rw [if_pos ⟨hv.1, h1⟩, if_pos ⟨hv.1, h2⟩, if_pos hv]
  refine ⟨rfl, rfl, ?_⟩
  have e1 : dotTo (swd M (xs.take (h + 1))) (xs.take (h + 1)).length = dotTo (swd M xs) (h + 1) := by
    rw [List.length_take, Nat.min_eq_left (by omega)]
    exact dotTo_ext _ fun k hk => swd_take hk
  obtain ⟨m, hm⟩ : ∃ m, xs.length = h + 1 + m := ⟨xs.length - (h + 1), by omega⟩
  have e2 : (xs.drop h).length = m + 1 := by rw [List.length_drop]; omega
  simp only
  rw [e1, e2, hm]
  have := sum_drop M xs h m
  omega

set_option maxRecDepth 100000 in
theorem cswing_any (R : MachR) (M : MachD) (A : Option Addr) (n c : Nat) (xs : List (StR × StD)) (w : World) (hO : IsMo w R M) (hm : 0 < n → IsM w R M) (hI : IsT 6 (fun x : StR × StD => stC x.1 x.2.tick) w A n xs) (hX : ∀ p ∈ xs, IsS w p.1 p.2) (hn : n ≤ 60) : Calls Tryz.prog 19 #[(.agg (machCells R M)), (.slice A n c)] w (Ret (.tuple #[.int .i64 (swL M xs).1, .int .i64 (swL M xs).2]) w) := by
  have n1 := hI.1
  refine calls_ax (vs := [(.agg (machCells R M)), (.slice A n c)]) Tryz.func19 rfl rfl ?_
  refine ac_seq ?_
  refine ac_region ?_
  refine al_new (fun b => .pointer (some ⟨b, 0, none⟩)) (r_box rfl rfl) rfl rfl rfl ?_
  intro b1
  refine al_q (q_assign rfl) rfl rfl rfl ?_
  refine al_q (q_assign rfl) rfl rfl rfl ?_
  refine al_end ?_
  refine aq_then ?_
  refine ac_seq ?_
  refine ac_seq ?_
  refine ac_region ?_
  refine al_q (q_loadAll (i := 0) rfl rfl Tryz.isAgg29 Tryz.sizeOf29 rfl) rfl rfl rfl ?_
  refine al_call Tryz.call40 (.cons rfl .nil) rfl rfl (fun w1 hs1 => ?_)
  refine (check_open R M _ (hO.below hs1.below)).mono ?_
  rintro e u1 ⟨rfl, hb_1⟩
  refine ⟨_, rfl, hb_1, ?_⟩
  clear hs1
  refine al_q (q_neq rfl rfl) rfl rfl rfl ?_
  refine al_q (q_move rfl) rfl rfl rfl ?_
  refine aq_split 15 rfl (fun hb1 => ?_) (fun hb1 => ?_)
  · have hE : swL M xs = (0, 1) := if_neg (fun h => by rw [h.1] at hb1; cases hb1)
    refine al_skip rfl rfl rfl ?_
    refine al_skip rfl rfl rfl ?_
    refine al_skip rfl rfl rfl ?_
    refine al_q (q_pickT rfl rfl) rfl rfl rfl ?_
    refine al_end ?_
    refine aq_then ?_
    refine ac_condT rfl ?_
    refine ac_seq ?_
    refine ac_region ?_
    refine al_q (q_assign rfl) rfl rfl rfl ?_
    refine al_q (q_assign rfl) rfl rfl rfl ?_
    refine al_end ?_
    refine aq_then ?_
    refine ac_ret ?_
    refine aq_thenR ?_
    refine ret2 Tryz.results19 rfl rfl (fun w9 hs => ?_)
    rw [hE]; first | exact ⟨rfl, hs.below⟩ | (rw [← hke2]; exact ⟨rfl, hs.below⟩)
  · have hc0 : checkC M = 0 := by simpa using hb1
    refine al_q (q_move rfl) rfl rfl rfl ?_
    refine al_q (q_makeFunc _ _ .nil (.cons rfl .nil)) rfl rfl rfl ?_
    refine al_inl Tryz.call41 (.cons rfl (.cons rfl .nil)) rfl rfl Tryz.func41 rfl rfl ?_
    refine ac_seq ?_
    refine ac_region ?_
    refine al_q (q_assign rfl) rfl rfl rfl ?_
    refine al_end ?_
    refine aq_then ?_
    refine ac_seq ?_
    refine ac_region ?_
    refine al_q (q_move rfl) rfl rfl rfl ?_
    refine al_q (q_move rfl) rfl rfl rfl ?_
    refine al_inl Tryz.call80 (.cons rfl (.cons rfl .nil)) rfl rfl Tryz.func80 rfl rfl ?_
    refine ac_seq ?_
    refine ac_region ?_
    refine al_q (q_assign rfl) rfl rfl rfl ?_
    refine al_end ?_
    refine aq_then ?_
    refine ac_seq ?_
    refine ac_seq ?_
    refine ac_region ?_
    refine al_q (q_move rfl) rfl rfl rfl ?_
    refine al_q (q_lenS rfl Tryz.runUnderlying47) rfl rfl rfl ?_
    refine al_q (q_move rfl) rfl rfl rfl ?_
    refine al_end ?_
    refine aq_then ?_
    refine ac_block ?_
    refine ac_loop (β := Nat) (fun k => k ≤ n ∧ ∀ j, j < k → validS M (xA xs j).2 = true) (fun k => [(0, (.slice A n c)), (1, (.func (.func 42) #[] #[.pointer (some ⟨b1, 0, none⟩)])), (4, (.int .i64 0)), (7, (.int .i64 (n : Int))), (8, (.int .i64 (k : Int)))]) (fun _ => _) (fun k => [(b1, _)]) (fun k => n - k) 0 ⟨by omega, fun j h => by omega⟩ ⟨rfl, rfl, rfl, rfl, rfl, trivial⟩ (fun w9 hs => hs) (fun k hF1 => ?_)
    refine ac_seq ?_
    refine ac_region ?_
    refine al_q (q_lss rfl rfl) rfl rfl rfl ?_
    refine al_end ?_
    refine aq_then ?_
    refine ac_seq ?_
    refine ac_cond rfl (fun h1 => ?_) (fun h1 => ?_)
    · have hkn : k < n := by have := of_decide_eq_true h1; omega
      obtain ⟨b11, o11, hA1, hlt1, hget1⟩ := hI.2 (by omega)
      have hx1 := xA_get (xs := xs) (k := k) (by omega)
      refine ac_skip ?_
      refine aq_then ?_
      refine ac_seq ?_
      refine ac_block ?_
      refine ac_seq ?_
      refine ac_region ?_
      refine al_q (q_move rfl) rfl rfl rfl ?_
      refine al_q (q_assign rfl) rfl rfl rfl ?_
      refine al_end ?_
      refine aq_then ?_
      refine ac_seq ?_
      refine ac_region ?_
      refine al_q (q_move rfl) rfl rfl rfl ?_
      refine al_q (q_move rfl) rfl rfl rfl ?_
      refine al_q (q_move rfl) rfl rfl rfl ?_
      refine al_q (q_indexAddrA (i := k) (o11 + k * 6 + 0) hA1 rfl rfl rfl (by omega) Tryz.runUnderlying47 Tryz.sizeOf35 rfl) rfl rfl rfl ?_
      refine al_q (q_loadXs (stC (xA xs k).1 (xA xs k).2.tick) rfl Tryz.isAgg35 Tryz.sizeOf35 (fun w9 hs j9 v9 h9 => by rw [addr_add]; exact (hs.below.cell (p := ⟨_, _, none⟩) hlt1).trans ((hget1 k _ hx1) j9 v9 h9)) rfl) rfl rfl rfl ?_
      refine al_inlV (fi := []) (ca := [(.pointer (some ⟨b1, 0, none⟩))]) rfl Tryz.call42 (.cons rfl .nil) rfl rfl Tryz.func42 rfl rfl ?_
      refine ac_seq ?_
      refine ac_region ?_
      refine al_new (fun b => .pointer (some ⟨b, 0, none⟩)) (r_box rfl rfl) rfl rfl rfl ?_
      intro b2
      refine al_q (q_assign rfl) rfl rfl rfl ?_
      refine al_end ?_
      refine aq_then ?_
      refine ac_seq ?_
      refine ac_region ?_
      refine al_q (q_loadAll (i := 1) rfl rfl Tryz.isAgg29 Tryz.sizeOf29 rfl) rfl rfl rfl ?_
      refine al_q (q_loadAll (i := 0) rfl rfl Tryz.isAgg35 Tryz.sizeOf35 rfl) rfl rfl rfl ?_
      refine al_call Tryz.call23 (.cons rfl (.cons rfl .nil)) rfl rfl (fun w2 hs2 => ?_)
      have hM9 := (hm (by omega)).below hs2.below
      have hp := (fun p hp => (hX p hp).below hs2.below) _ (xA_mem (xs := xs) (k := k) (by omega))
      refine (validState_any R M (xA xs k).1 (xA xs k).2 _ hM9 hp).mono ?_
      rintro e u2 ⟨rfl, hb_2⟩
      refine ⟨_, rfl, hb_2, ?_⟩
      clear hs2
      refine al_q (q_not rfl) rfl rfl rfl ?_
      refine al_q (q_assign rfl) rfl rfl rfl ?_
      refine al_end ?_
      refine aq_then ?_
      refine ac_ret ?_
      refine retI Tryz.results42 (.tmp rfl .nil) .one ?_
      refine al_end ?_
      refine aq_then ?_
      refine ac_cond rfl (fun h2 => ?_) (fun h2 => ?_)
      · have hvk : validS M (xA xs k).2 = false := by simpa using h2
        have hE : swL M xs = (0, 1) := if_neg (fun h => by have := h.2 k (by omega); rw [hvk] at this; cases this)
        refine ac_seq ?_
        refine ac_region ?_
        refine al_q (q_move rfl) rfl rfl rfl ?_
        refine al_q (q_assign rfl) rfl rfl rfl ?_
        refine al_end ?_
        refine aq_then ?_
        refine ac_ret ?_
        refine aq_inR ?_
        refine aq_thenR ?_
        refine aq_thenR ?_
        refine aq_inR ?_
        refine aq_thenR ?_
        refine retI Tryz.results80 (.tmp rfl .nil) .one ?_
        refine al_q (q_geq rfl rfl) rfl rfl rfl ?_
        refine al_q (q_assign rfl) rfl rfl rfl ?_
        refine al_end ?_
        refine aq_then ?_
        refine ac_ret ?_
        refine retI Tryz.results41 (.tmp rfl .nil) .one ?_
        refine al_q (q_pickF rfl rfl) rfl rfl rfl ?_
        refine al_end ?_
        refine aq_then ?_
        refine ac_cond rfl (fun h3 => ?_) (fun h3 => ?_)
        · skip
          refine ac_seq ?_
          refine ac_region ?_
          refine al_q (q_assign rfl) rfl rfl rfl ?_
          refine al_q (q_assign rfl) rfl rfl rfl ?_
          refine al_end ?_
          refine aq_then ?_
          refine ac_ret ?_
          refine aq_thenR ?_
          refine ret2 Tryz.results19 rfl rfl (fun w9 hs => ?_)
          rw [hE]; first | exact ⟨rfl, hs.below⟩ | (rw [← hke2]; exact ⟨rfl, hs.below⟩)
        · exfalso; have := of_decide_eq_false h3; omega
      · have hvk : validS M (xA xs k).2 = true := by simpa using h2
        refine ac_skip ?_
        refine aq_inN ?_
        refine aq_then ?_
        refine ac_region ?_
        refine al_q (q_add rfl rfl (by omega)) rfl rfl rfl ?_
        refine al_q (q_move rfl) rfl rfl rfl ?_
        refine al_end ?_
        refine aq_then ?_
        skip
        refine aq_round (k + 1) (by omega) ⟨by omega, fun j h1 => (Nat.lt_or_ge j k).elim (fun g => hF1.2 j g) (fun g => by (have e : j = k := by omega); rw [e]; exact hvk)⟩ ⟨rfl, rfl, rfl, rfl, rfl, trivial⟩ (fun w9 hs => ((hs.fewer 1 rfl).tail 1 rfl))
    · have hke : k = n := by have := of_decide_eq_false h1; omega
      have hall : allV M xs := fun j hj => hF1.2 j (by omega)
      refine ac_exit ?_
      refine aq_thenE ?_
      refine aq_thenE ?_
      refine aq_hit ?_
      refine aq_then ?_
      refine ac_seq ?_
      refine ac_region ?_
      refine al_q (q_assign rfl) rfl rfl rfl ?_
      refine al_end ?_
      refine aq_then ?_
      refine ac_ret ?_
      refine retI Tryz.results80 (.tmp rfl .nil) .one ?_
      refine al_q (q_geq rfl rfl) rfl rfl rfl ?_
      refine al_q (q_assign rfl) rfl rfl rfl ?_
      refine al_end ?_
      refine aq_then ?_
      refine ac_ret ?_
      refine retI Tryz.results41 (.tmp rfl .nil) .one ?_
      refine al_q (q_pickF rfl rfl) rfl rfl rfl ?_
      refine al_end ?_
      refine aq_then ?_
      refine ac_cond rfl (fun h4 => ?_) (fun h4 => ?_)
      · exfalso; have := of_decide_eq_true h4; omega
      · have hE : swL M xs = (dotTo (swd M xs) n, 0) := by rw [swL, if_pos ⟨hc0, hall⟩, n1]
        refine ac_skip ?_
        refine aq_then ?_
        refine ac_seq ?_
        refine ac_region ?_
        refine al_q (q_assign rfl) rfl rfl rfl ?_
        refine al_q (q_assign rfl) rfl rfl rfl ?_
        refine al_end ?_
        refine aq_then ?_
        refine ac_seq ?_
        refine ac_seq ?_
        refine ac_region ?_
        refine al_q (q_move rfl) rfl rfl rfl ?_
        refine al_q (q_lenS rfl Tryz.runUnderlying47) rfl rfl rfl ?_
        refine al_q (q_move rfl) rfl rfl rfl ?_
        refine al_end ?_
        refine aq_then ?_
        refine ac_block ?_
        refine ac_loop (β := Nat) (fun k => k ≤ n) (fun k => [(2, (.pointer (some ⟨b1, 0, none⟩))), (4, (.int .i64 0)), (5, (.int .i64 0)), (6, (.int .i64 (dotTo (swd M xs) k))), (7, (.int .i64 (pvS M xs k))), (20, (.slice A n c)), (21, (.int .i64 (n : Int))), (22, (.int .i64 (k : Int)))]) (fun _ => _) (fun k => [(b1, _)]) (fun k => n - k) 0 (by omega) ⟨rfl, rfl, rfl, rfl, rfl, rfl, rfl, rfl, trivial⟩ (fun w9 hs => hs) (fun k hF2 => ?_)
        refine ac_seq ?_
        refine ac_region ?_
        refine al_q (q_lss rfl rfl) rfl rfl rfl ?_
        refine al_end ?_
        refine aq_then ?_
        refine ac_seq ?_
        refine ac_cond rfl (fun h5 => ?_) (fun h5 => ?_)
        · have hkn : k < n := by have := of_decide_eq_true h5; omega
          obtain ⟨b11, o11, hA1, hlt1, hget1⟩ := hI.2 (by omega)
          have hx1 := xA_get (xs := xs) (k := k) (by omega)
          have b1 := lkS_bd M xs k
          have b2 := pvS_bd M xs k
          have b3 := sum_bd M xs k
          have b4 := swd_bd M xs k
          have b5 := sum_bd M xs (k + 1)
          have hd : dotTo (swd M xs) (k + 1) = dotTo (swd M xs) k + swd M xs k := rfl
          refine ac_skip ?_
          refine aq_then ?_
          refine ac_seq ?_
          refine ac_block ?_
          refine ac_seq ?_
          refine ac_region ?_
          refine al_q (q_move rfl) rfl rfl rfl ?_
          refine al_q (q_indexAddrA (i := k) (o11 + k * 6 + 0) hA1 rfl rfl rfl (by omega) Tryz.runUnderlying47 Tryz.sizeOf35 rfl) rfl rfl rfl ?_
          refine al_q (q_loadXs (stC (xA xs k).1 (xA xs k).2.tick) rfl Tryz.isAgg35 Tryz.sizeOf35 (fun w9 hs j9 v9 h9 => by rw [addr_add]; exact (hs.below.cell (p := ⟨_, _, none⟩) hlt1).trans ((hget1 k _ hx1) j9 v9 h9)) rfl) rfl rfl rfl ?_
          refine al_new (fun b => .pointer (some ⟨b, 0, none⟩)) (r_alloc Tryz.zeroValue35 rfl) rfl rfl rfl ?_
          intro b3
          refine al_q (q_assign rfl) rfl rfl rfl ?_
          refine al_storeAll (i := 0) rfl rfl rfl rfl Tryz.sizeOf35 rfl rfl .k0 rfl ?_
          refine al_end ?_
          refine aq_then ?_
          refine ac_seq ?_
          refine ac_region ?_
          refine al_q (q_loadAll (i := 1) rfl rfl Tryz.isAgg29 Tryz.sizeOf29 rfl) rfl rfl rfl ?_
          refine al_q (q_fieldAddr 1 rfl Tryz.runUnderlying35 rfl Tryz.sizeOf32 (by decide) rfl) rfl rfl rfl ?_
          refine al_q (q_loadSub (i := 0) rfl rfl Tryz.isAgg32 Tryz.sizeOf32 .k1 .k3) rfl rfl rfl ?_
          refine al_call Tryz.call43 (.cons rfl (.cons rfl .nil)) rfl rfl (fun w3 hs3 => ?_)
          have hM9 := (hm (by omega)).below hs3.below
          have hp := (fun p hp => (hX p hp).below hs3.below) _ (xA_mem (xs := xs) (k := k) (by omega))
          refine (linkedS_any R M xs k _ hM9 hp.cur).mono ?_
          rintro e u3 ⟨rfl, hb_3⟩
          refine ⟨_, rfl, hb_3, ?_⟩
          clear hs3
          refine al_q (q_move rfl) rfl rfl rfl ?_
          refine al_q (q_extract rfl rfl) rfl rfl rfl ?_
          refine al_q (q_extract rfl rfl) rfl rfl rfl ?_
          refine al_q (q_assign rfl) rfl rfl rfl ?_
          refine al_q (q_assign rfl) rfl rfl rfl ?_
          refine al_end ?_
          refine aq_then ?_
          refine aq_keepL [2, 4, 5, 6, 7, 8, 9, 10, 20, 21, 22, 23, 24, 25, 26, 27, 28, 29, 30, 31, 32, 33] (.cons rfl (.cons rfl (.cons rfl (.cons rfl (.cons rfl (.cons rfl (.cons rfl (.cons rfl (.cons rfl (.cons rfl (.cons rfl (.cons rfl (.cons rfl (.cons rfl (.cons rfl (.cons rfl (.cons rfl (.cons rfl (.cons rfl (.cons rfl (.cons rfl (.cons rfl .nil)))))))))))))))))))))) ?_
          refine ac_seq ?_
          refine ac_seq ?_
          refine ac_region ?_
          refine al_q (q_move rfl) rfl rfl rfl ?_
          refine al_q (q_gtr rfl rfl) rfl rfl rfl ?_
          refine al_end ?_
          refine aq_then ?_
          refine ac_cond rfl (fun h6 => ?_) (fun h6 => ?_)
          · have hk0 : k ≠ 0 := by have := of_decide_eq_true h6; omega
            have hsw : swd M xs k = max (lkS M xs k - pvS M xs k) (pvS M xs k - lkS M xs k) := if_neg hk0
            refine ac_region ?_
            refine al_q (q_move rfl) rfl rfl rfl ?_
            refine al_q (q_move rfl) rfl rfl rfl ?_
            refine al_q (q_move rfl) rfl rfl rfl ?_
            refine al_q (q_sub rfl rfl (by omega)) rfl rfl rfl ?_
            refine al_q (q_move rfl) rfl rfl rfl ?_
            refine al_q (q_move rfl) rfl rfl rfl ?_
            refine al_q (q_sub rfl rfl (by omega)) rfl rfl rfl ?_
            refine al_q (q_max rfl rfl) rfl rfl rfl ?_
            refine al_q (q_add rfl rfl (by omega)) rfl rfl rfl ?_
            refine al_q (q_assign rfl) rfl rfl rfl ?_
            refine al_end ?_
            refine aq_then ?_
            refine ac_region ?_
            refine al_q (q_move rfl) rfl rfl rfl ?_
            refine al_q (q_assign rfl) rfl rfl rfl ?_
            refine al_end ?_
            refine aq_inN ?_
            refine aq_then ?_
            refine ac_region ?_
            refine al_q (q_add rfl rfl (by omega)) rfl rfl rfl ?_
            refine al_q (q_move rfl) rfl rfl rfl ?_
            refine al_end ?_
            refine aq_then ?_
            skip
            refine aq_round (k + 1) (by omega) (by omega) ⟨rfl, rfl, rfl, (by first | (rw [hd, hsw]; rfl) | (rw [hd2]; rfl)), rfl, rfl, rfl, rfl, trivial⟩ (fun w9 hs => ((hs.fewer 1 rfl).tail 1 rfl))
          · have hk0 : k = 0 := by have := of_decide_eq_false h6; omega
            have hsw : swd M xs k = 0 := if_pos hk0
            have hd2 : dotTo (swd M xs) (k + 1) = dotTo (swd M xs) k := by rw [hd, hsw]; omega
            refine ac_skip ?_
            refine aq_then ?_
            refine ac_region ?_
            refine al_q (q_move rfl) rfl rfl rfl ?_
            refine al_q (q_assign rfl) rfl rfl rfl ?_
            refine al_end ?_
            refine aq_inN ?_
            refine aq_then ?_
            refine ac_region ?_
            refine al_q (q_add rfl rfl (by omega)) rfl rfl rfl ?_
            refine al_q (q_move rfl) rfl rfl rfl ?_
            refine al_end ?_
            refine aq_then ?_
            skip
            refine aq_round (k + 1) (by omega) (by omega) ⟨rfl, rfl, rfl, (by first | (rw [hd, hsw]; rfl) | (rw [hd2]; rfl)), rfl, rfl, rfl, rfl, trivial⟩ (fun w9 hs => ((hs.fewer 1 rfl).tail 1 rfl))
        · have hke2 : k = n := by have := of_decide_eq_false h5; omega
          refine ac_exit ?_
          refine aq_thenE ?_
          refine aq_thenE ?_
          refine aq_hit ?_
          refine aq_then ?_
          refine ac_seq ?_
          refine ac_region ?_
          refine al_q (q_move rfl) rfl rfl rfl ?_
          refine al_q (q_assign rfl) rfl rfl rfl ?_
          refine al_q (q_assign rfl) rfl rfl rfl ?_
          refine al_end ?_
          refine aq_then ?_
          refine ac_ret ?_
          refine ret2 Tryz.results19 rfl rfl (fun w9 hs => ?_)
          rw [hE]; first | exact ⟨rfl, hs.below⟩ | (rw [← hke2]; exact ⟨rfl, hs.below⟩)

set_option maxRecDepth 100000 in
theorem rsizeB_any (n : Int) (w : World) (hn : -1000000000000000000 ≤ n ∧ n ≤ 1000000000000000000) : Calls Tryz.prog 46 #[(.int .i64 n)] w (Ret (.int .i64 (max n (-n))) w) := by
  refine calls_ax (vs := [(.int .i64 n)]) Tryz.func46 rfl rfl ?_
  refine ac_seq ?_
  refine ac_region ?_
  refine al_q (q_assign rfl) rfl rfl rfl ?_
  refine al_end ?_
  refine aq_then ?_
  refine ac_seq ?_
  refine ac_seq ?_
  refine ac_region ?_
  refine al_q (q_move rfl) rfl rfl rfl ?_
  refine al_q (q_lss rfl rfl) rfl rfl rfl ?_
  refine al_end ?_
  refine aq_then ?_
  refine ac_cond rfl (fun h1 => ?_) (fun h1 => ?_)
  · have g1 := of_decide_eq_true h1
    have e1 : max n (-n) = -n := by omega
    refine ac_seq ?_
    refine ac_region ?_
    refine al_q (q_move rfl) rfl rfl rfl ?_
    refine al_q (q_neg rfl (by omega)) rfl rfl rfl ?_
    refine al_q (q_assign rfl) rfl rfl rfl ?_
    refine al_end ?_
    refine aq_then ?_
    refine ac_ret ?_
    refine aq_thenR ?_
    refine ret1 Tryz.results46 rfl (fun w9 hs => ?_)
    rw [e1]; exact ⟨rfl, hs.below⟩
  · have g1 := of_decide_eq_false h1
    have e1 : max n (-n) = n := by omega
    refine ac_skip ?_
    refine aq_then ?_
    refine ac_seq ?_
    refine ac_region ?_
    refine al_q (q_move rfl) rfl rfl rfl ?_
    refine al_q (q_assign rfl) rfl rfl rfl ?_
    refine al_end ?_
    refine aq_then ?_
    refine ac_ret ?_
    refine ret1 Tryz.results46 rfl (fun w9 hs => ?_)
    rw [e1]; exact ⟨rfl, hs.below⟩

set_option maxRecDepth 100000 in
theorem rswing_any (R : MachR) (M : MachD) (A : Option Addr) (n c : Nat) (xs : List (StR × StD)) (w : World) (hO : IsMo w R M) (hm : 0 < n → IsM w R M) (hI : IsT 6 (fun x : StR × StD => stC x.1 x.2.tick) w A n xs) (hX : ∀ p ∈ xs, IsS w p.1 p.2) (hn : n ≤ 60) : Calls Tryz.prog 20 #[(.agg (machCells R M)), (.slice A n c)] w (Ret (.tuple #[.int .i64 (swL M xs).1, .int .i64 (swL M xs).2]) w) := by
  have n1 := hI.1
  refine calls_ax (vs := [(.agg (machCells R M)), (.slice A n c)]) Tryz.func20 rfl rfl ?_
  refine ac_seq ?_
  refine ac_region ?_
  refine al_new (fun b => .pointer (some ⟨b, 0, none⟩)) (r_box rfl rfl) rfl rfl rfl ?_
  intro b1
  refine al_q (q_assign rfl) rfl rfl rfl ?_
  refine al_q (q_assign rfl) rfl rfl rfl ?_
  refine al_end ?_
  refine aq_then ?_
  refine ac_seq ?_
  refine ac_seq ?_
  refine ac_region ?_
  refine al_q (q_loadAll (i := 0) rfl rfl Tryz.isAgg29 Tryz.sizeOf29 rfl) rfl rfl rfl ?_
  refine al_call Tryz.call44 (.cons rfl .nil) rfl rfl (fun w1 hs1 => ?_)
  refine (rcheck_open R M _ (hO.below hs1.below)).mono ?_
  rintro e u1 ⟨rfl, hb_1⟩
  refine ⟨_, rfl, hb_1, ?_⟩
  clear hs1
  refine al_q (q_neq rfl rfl) rfl rfl rfl ?_
  refine al_end ?_
  refine aq_then ?_
  refine ac_cond rfl (fun h1 => ?_) (fun h1 => ?_)
  · have hE : swL M xs = (0, 1) := if_neg (fun h => by rw [h.1] at h1; cases h1)
    refine ac_seq ?_
    refine ac_region ?_
    refine al_q (q_assign rfl) rfl rfl rfl ?_
    refine al_q (q_assign rfl) rfl rfl rfl ?_
    refine al_end ?_
    refine aq_then ?_
    refine ac_ret ?_
    refine aq_thenR ?_
    refine ret2 Tryz.results20 rfl rfl (fun w9 hs => ?_)
    rw [hE]; first | exact ⟨rfl, hs.below⟩ | (rw [← hke2]; exact ⟨rfl, hs.below⟩)
  · have hc0 : checkC M = 0 := by simpa using h1
    refine ac_skip ?_
    refine aq_then ?_
    refine ac_seq ?_
    refine ac_region ?_
    refine al_q (q_assign rfl) rfl rfl rfl ?_
    refine al_q (q_assign rfl) rfl rfl rfl ?_
    refine al_end ?_
    refine aq_then ?_
    refine ac_seq ?_
    refine ac_seq ?_
    refine ac_region ?_
    refine al_q (q_assign rfl) rfl rfl rfl ?_
    refine al_end ?_
    refine aq_then ?_
    refine ac_block ?_
    refine ac_loop (β := Nat) (fun k => k ≤ n ∧ ∀ j, j < k → validS M (xA xs j).2 = true) (fun k => [(1, (.slice A n c)), (2, (.pointer (some ⟨b1, 0, none⟩))), (4, (.int .i64 0)), (5, (.int .i64 0)), (6, (.int .i64 (dotTo (swd M xs) k))), (7, (.int .i64 (pvS M xs k))), (8, (.int .i64 (k : Int)))]) (fun _ => _) (fun k => [(b1, _)]) (fun k => n - k) 0 ⟨by omega, fun j h => by omega⟩ ⟨rfl, rfl, rfl, rfl, rfl, rfl, rfl, trivial⟩ (fun w9 hs => hs) (fun k hF1 => ?_)
    refine ac_seq ?_
    refine ac_seq ?_
    refine ac_region ?_
    refine al_q (q_move rfl) rfl rfl rfl ?_
    refine al_q (q_move rfl) rfl rfl rfl ?_
    refine al_q (q_lenS rfl Tryz.runUnderlying47) rfl rfl rfl ?_
    refine al_q (q_lss rfl rfl) rfl rfl rfl ?_
    refine al_end ?_
    refine aq_then ?_
    refine ac_cond rfl (fun h2 => ?_) (fun h2 => ?_)
    · have hkn : k < n := by have := of_decide_eq_true h2; omega
      obtain ⟨b11, o11, hA1, hlt1, hget1⟩ := hI.2 (by omega)
      have hx1 := xA_get (xs := xs) (k := k) (by omega)
      have b1 := lkS_bd M xs k
      have b2 := pvS_bd M xs k
      have b3 := sum_bd M xs k
      have b4 := swd_bd M xs k
      have b5 := sum_bd M xs (k + 1)
      have hd : dotTo (swd M xs) (k + 1) = dotTo (swd M xs) k + swd M xs k := rfl
      refine ac_skip ?_
      refine aq_then ?_
      refine ac_seq ?_
      refine ac_block ?_
      refine ac_seq ?_
      refine ac_seq ?_
      refine ac_draw 6 (by kernel_rfl) (by kernel_rfl) ?_
      refine ah_take 0 (fun w9 hs => hs) rfl rfl rfl (by kernel_rfl) (by kernel_rfl) (by kernel_rfl) (fun _ _ _ h => h) rfl (q_loadAll (i := 0) rfl rfl Tryz.isAgg29 Tryz.sizeOf29 rfl) ?_
      refine ah_take 1 (fun w9 hs => hs) rfl rfl rfl (by kernel_rfl) (by kernel_rfl) (by kernel_rfl) (fun _ _ _ h => h) rfl (q_move rfl) ?_
      refine ah_take 2 (fun w9 hs => hs) rfl rfl rfl (by kernel_rfl) (by kernel_rfl) (by kernel_rfl) (fun _ _ _ h => h) rfl (q_move rfl) ?_
      refine ah_take 3 (fun w9 hs => hs) rfl rfl rfl (by kernel_rfl) (by kernel_rfl) (by kernel_rfl) (fun _ _ _ h => h) rfl (q_indexAddrA (i := k) (o11 + k * 6 + 0) hA1 rfl rfl rfl (by omega) Tryz.runUnderlying47 Tryz.sizeOf35 rfl) ?_
      refine ah_take 4 (fun w9 hs => hs) rfl rfl rfl (by kernel_rfl) (by kernel_rfl) (by kernel_rfl) (fun _ _ _ h => h) rfl (q_loadXs (stC (xA xs k).1 (xA xs k).2.tick) rfl Tryz.isAgg35 Tryz.sizeOf35 (fun w9 hs j9 v9 h9 => by rw [addr_add]; exact (hs.below.cell (p := ⟨_, _, none⟩) hlt1).trans ((hget1 k _ hx1) j9 v9 h9)) rfl) ?_
      refine ah_one 5 rfl (by kernel_rfl) (fun hok1 hcl1 => ?_)
      refine al_call Tryz.call26 (.cons rfl (.cons rfl .nil)) rfl rfl (fun w2 hs2 => ?_)
      have hM9 := (hm (by omega)).below hs2.below
      have hp := (fun p hp => (hX p hp).below hs2.below) _ (xA_mem (xs := xs) (k := k) (by omega))
      refine (rvalidState_any R M (xA xs k).1 (xA xs k).2 _ hM9 hp).mono ?_
      rintro e u2 ⟨rfl, hb_2⟩
      refine ⟨_, rfl, hb_2, ?_⟩
      clear hs2
      refine al_end (ah_back hok1 hcl1 (fun w9 hs => (hs.fewer 1 rfl)) ?_)
      refine ah_take 6 (fun w9 hs => (hs.fewer 1 rfl)) rfl rfl rfl (by kernel_rfl) (by kernel_rfl) (by kernel_rfl) (fun _ _ _ h => h) rfl (q_not rfl) ?_
      refine ah_done (by kernel_rfl) ?_
      refine aq_then ?_
      refine ac_cond rfl (fun h3 => ?_) (fun h3 => ?_)
      · have hvk : validS M (xA xs k).2 = false := by simpa using h3
        have hE : swL M xs = (0, 1) := if_neg (fun h => by have := h.2 k (by omega); rw [hvk] at this; cases this)
        refine ac_seq ?_
        refine ac_region ?_
        refine al_q (q_assign rfl) rfl rfl rfl ?_
        refine al_q (q_assign rfl) rfl rfl rfl ?_
        refine al_end ?_
        refine aq_then ?_
        refine ac_ret ?_
        refine aq_thenR ?_
        refine aq_inR ?_
        refine aq_thenR ?_
        refine aq_thenR ?_
        refine aq_inR ?_
        refine aq_thenR ?_
        refine ret2 Tryz.results20 rfl rfl (fun w9 hs => ?_)
        rw [hE]; first | exact ⟨rfl, hs.below⟩ | (rw [← hke2]; exact ⟨rfl, hs.below⟩)
      · have hvk : validS M (xA xs k).2 = true := by simpa using h3
        refine ac_skip ?_
        refine aq_then ?_
        refine ac_seq ?_
        refine ac_draw 11 (by kernel_rfl) (by kernel_rfl) ?_
        refine ah_take 0 (fun w9 hs => hs) rfl rfl rfl (by kernel_rfl) (by kernel_rfl) (by kernel_rfl) (fun _ _ _ h => h) rfl (q_loadAll (i := 0) rfl rfl Tryz.isAgg29 Tryz.sizeOf29 rfl) ?_
        refine ah_take 1 (fun w9 hs => hs) rfl rfl rfl (by kernel_rfl) (by kernel_rfl) (by kernel_rfl) (fun _ _ _ h => h) rfl (q_move rfl) ?_
        refine ah_take 2 (fun w9 hs => hs) rfl rfl rfl (by kernel_rfl) (by kernel_rfl) (by kernel_rfl) (fun _ _ _ h => h) rfl (q_move rfl) ?_
        refine ah_take 3 (fun w9 hs => hs) rfl rfl rfl (by kernel_rfl) (by kernel_rfl) (by kernel_rfl) (fun _ _ _ h => h) rfl (q_indexAddrA (i := k) (o11 + k * 6 + 0) hA1 rfl rfl rfl (by omega) Tryz.runUnderlying47 Tryz.sizeOf35 rfl) ?_
        refine ah_take 4 (fun w9 hs => hs) rfl rfl rfl (by kernel_rfl) (by kernel_rfl) (by kernel_rfl) (fun _ _ _ h => h) rfl (q_fieldAddr (o11 + k * 6 + 1) rfl Tryz.runUnderlying35 rfl Tryz.sizeOf32 (by decide) rfl) ?_
        refine ah_take 5 (fun w9 hs => hs) rfl rfl rfl (by kernel_rfl) (by kernel_rfl) (by kernel_rfl) (fun _ _ _ h => h) rfl (q_loadXs (((stC (xA xs k).1 (xA xs k).2.tick).drop 1).take 3) rfl Tryz.isAgg32 Tryz.sizeOf32 (fun w9 hs j9 v9 h9 => by rw [addr_add]; have h8 := (hs.below.cell (p := ⟨_, _, none⟩) hlt1).trans ((hget1 k _ hx1) (1 + j9) v9 (sub_get h9)); rwa [← Nat.add_assoc] at h8) rfl) ?_
        refine ah_one 6 rfl (by kernel_rfl) (fun hok2 hcl2 => ?_)
        refine al_call Tryz.call45 (.cons rfl (.cons rfl .nil)) rfl rfl (fun w3 hs3 => ?_)
        have hM9 := (hm (by omega)).below hs3.below
        have hp := (fun p hp => (hX p hp).below hs3.below) _ (xA_mem (xs := xs) (k := k) (by omega))
        refine (rlinkedS_any R M xs k _ hM9 hp.cur).mono ?_
        rintro e u3 ⟨rfl, hb_3⟩
        refine ⟨_, rfl, hb_3, ?_⟩
        clear hs3
        refine al_end (ah_back hok2 hcl2 (fun w9 hs => (hs.fewer 1 rfl)) ?_)
        refine ah_take 7 (fun w9 hs => (hs.fewer 1 rfl)) rfl rfl rfl (by kernel_rfl) (by kernel_rfl) (by kernel_rfl) (fun _ _ _ h => h) rfl (q_move rfl) ?_
        refine ah_take 8 (fun w9 hs => (hs.fewer 1 rfl)) rfl rfl rfl (by kernel_rfl) (by kernel_rfl) (by kernel_rfl) (fun _ _ _ h => h) rfl (q_extract rfl rfl) ?_
        refine ah_take 9 (fun w9 hs => (hs.fewer 1 rfl)) rfl rfl rfl (by kernel_rfl) (by kernel_rfl) (by kernel_rfl) (fun _ _ _ h => h) rfl (q_extract rfl rfl) ?_
        refine ah_one 10 rfl (by kernel_rfl) (fun hok3 hcl3 => ?_)
        refine al_q (q_assign rfl) rfl rfl rfl ?_
        refine al_end (ah_back hok3 hcl3 (fun w9 hs => (hs.fewer 1 rfl)) ?_)
        refine ah_one 11 rfl (by kernel_rfl) (fun hok4 hcl4 => ?_)
        refine al_q (q_assign rfl) rfl rfl rfl ?_
        refine al_end (ah_last (by kernel_rfl) ?_)
        refine aq_then ?_
        refine ac_seq ?_
        refine ac_seq ?_
        refine ac_region ?_
        refine al_q (q_move rfl) rfl rfl rfl ?_
        refine al_q (q_gtr rfl rfl) rfl rfl rfl ?_
        refine al_end ?_
        refine aq_then ?_
        refine ac_cond rfl (fun h4 => ?_) (fun h4 => ?_)
        · have hk0 : k ≠ 0 := by have := of_decide_eq_true h4; omega
          have hsw : swd M xs k = max (lkS M xs k - pvS M xs k) (pvS M xs k - lkS M xs k) := if_neg hk0
          have hmx : max (lkS M xs k - pvS M xs k) (pvS M xs k - lkS M xs k) = max (lkS M xs k - pvS M xs k) (-(lkS M xs k - pvS M xs k)) := by rw [show -(lkS M xs k - pvS M xs k) = pvS M xs k - lkS M xs k by omega]
          rw [hmx] at hsw
          refine ac_region ?_
          refine al_q (q_move rfl) rfl rfl rfl ?_
          refine al_q (q_move rfl) rfl rfl rfl ?_
          refine al_q (q_move rfl) rfl rfl rfl ?_
          refine al_q (q_sub rfl rfl (by omega)) rfl rfl rfl ?_
          refine al_call Tryz.call46 (.cons rfl .nil) rfl rfl (fun w4 hs4 => ?_)
          refine (rsizeB_any (lkS M xs k - pvS M xs k) _ (by omega)).mono ?_
          rintro e u4 ⟨rfl, hb_4⟩
          refine ⟨_, rfl, hb_4, ?_⟩
          clear hs4
          refine al_q (q_add rfl rfl (by omega)) rfl rfl rfl ?_
          refine al_q (q_assign rfl) rfl rfl rfl ?_
          refine al_end ?_
          refine aq_then ?_
          refine ac_region ?_
          refine al_q (q_move rfl) rfl rfl rfl ?_
          refine al_q (q_assign rfl) rfl rfl rfl ?_
          refine al_end ?_
          refine aq_inN ?_
          refine aq_then ?_
          refine ac_region ?_
          refine al_q (q_move rfl) rfl rfl rfl ?_
          refine al_q (q_add rfl rfl (by omega)) rfl rfl rfl ?_
          refine al_q (q_assign rfl) rfl rfl rfl ?_
          refine al_end ?_
          refine aq_then ?_
          skip
          refine aq_round (k + 1) (by omega) ⟨by omega, fun j h1 => (Nat.lt_or_ge j k).elim (fun g => hF1.2 j g) (fun g => by (have e : j = k := by omega); rw [e]; exact hvk)⟩ ⟨rfl, rfl, rfl, rfl, (by first | (rw [hd, hsw]; rfl) | (rw [hd2]; rfl)), rfl, rfl, trivial⟩ (fun w9 hs => (hs.fewer 3 rfl))
        · have hk0 : k = 0 := by have := of_decide_eq_false h4; omega
          have hsw : swd M xs k = 0 := if_pos hk0
          have hd2 : dotTo (swd M xs) (k + 1) = dotTo (swd M xs) k := by rw [hd, hsw]; omega
          refine ac_skip ?_
          refine aq_then ?_
          refine ac_region ?_
          refine al_q (q_move rfl) rfl rfl rfl ?_
          refine al_q (q_assign rfl) rfl rfl rfl ?_
          refine al_end ?_
          refine aq_inN ?_
          refine aq_then ?_
          refine ac_region ?_
          refine al_q (q_move rfl) rfl rfl rfl ?_
          refine al_q (q_add rfl rfl (by omega)) rfl rfl rfl ?_
          refine al_q (q_assign rfl) rfl rfl rfl ?_
          refine al_end ?_
          refine aq_then ?_
          skip
          refine aq_round (k + 1) (by omega) ⟨by omega, fun j h1 => (Nat.lt_or_ge j k).elim (fun g => hF1.2 j g) (fun g => by (have e : j = k := by omega); rw [e]; exact hvk)⟩ ⟨rfl, rfl, rfl, rfl, (by first | (rw [hd, hsw]; rfl) | (rw [hd2]; rfl)), rfl, rfl, trivial⟩ (fun w9 hs => (hs.fewer 2 rfl))
    · have hke2 : k = n := by have := of_decide_eq_false h2; omega
      have hall : allV M xs := fun j hj => hF1.2 j (by omega)
      have hE : swL M xs = (dotTo (swd M xs) n, 0) := by rw [swL, if_pos ⟨hc0, hall⟩, n1]
      refine ac_exit ?_
      refine aq_thenE ?_
      refine aq_thenE ?_
      refine aq_hit ?_
      refine aq_then ?_
      refine ac_seq ?_
      refine ac_region ?_
      refine al_q (q_move rfl) rfl rfl rfl ?_
      refine al_q (q_assign rfl) rfl rfl rfl ?_
      refine al_q (q_assign rfl) rfl rfl rfl ?_
      refine al_end ?_
      refine aq_then ?_
      refine ac_ret ?_
      refine ret2 Tryz.results20 rfl rfl (fun w9 hs => ?_)
      rw [hE]; first | exact ⟨rfl, hs.below⟩ | (rw [← hke2]; exact ⟨rfl, hs.below⟩)

end Go.Proofs.YtkhahbnagbjbiaaGreat
end
