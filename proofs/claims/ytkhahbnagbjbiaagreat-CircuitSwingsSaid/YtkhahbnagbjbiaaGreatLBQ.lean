import Derived.Test.YtkhahbnagbjbiaaGreatLAA
import Derived.Test.YtkhahbnagbjbiaaGreatLAB
import Derived.Test.YtkhahbnagbjbiaaGreatLBP
import Derived.Test.YtkhahbnagbjbiaaGreatRows
import Derived.KernelRfl
import Derived.Laws.StructEq
import Derived.ProofKit
import Derived.OpenShut
import Derived.Lib.SmallJoins
import Derived.Deep.Slices
import Derived.Carry
section
/- The law CircuitSwings, over this seat's translation (written by ax_ci32.py). -/
namespace Go.Proofs.YtkhahbnagbjbiaaGreat
set_option linter.unusedVariables false
set_option linter.unusedSimpArgs false
open Go.RowKit

theorem sw_bd (M : MachD) (xs : List (StR × StD)) : 0 ≤ (swL M xs).1 ∧ (swL M xs).1 ≤ (xs.length : Int) * 50000000000000000 := by
  unfold swL
  split
  · exact sum_bd M xs _
  · simp only; omega

set_option maxRecDepth 100000 in
theorem swings_walk (R : MachR) (M : MachD) (A : Option Addr) (n c : Nat) (xs : List (StR × StD)) (w : World) (hO : IsMo w R M) (hM0 : R.la ≤ 1000000000000000 → R.lb ≤ 1000000000000000 → R.lc ≤ 1000000000000000 → R.ld ≤ 1000000000000000 → IsM w R M) (hI : IsT 6 (fun x : StR × StD => stC x.1 x.2.tick) w A n xs) (hX0 : ∀ p ∈ xs, p.1.Q.la ≤ 1000000000000000 → p.1.Q.lb ≤ 1000000000000000 → p.1.Q.lc ≤ 1000000000000000 → p.1.lh ≤ 1000000000000000 → IsS w p.1 p.2) (kc : n ≤ c ∧ c ≤ 9223372036854775807) : Calls Tryz.prog 6 #[(.agg (machCells R M)), (.slice A n c)] w (Ret (.bool true) w) := by
  have n1 := hI.1
  refine calls_ax (vs := [(.agg (machCells R M)), (.slice A n c)]) Tryz.func6 rfl rfl ?_
  refine ac_seq ?_
  refine ac_region ?_
  refine al_new (fun b => .pointer (some ⟨b, 0, none⟩)) (r_box rfl rfl) rfl rfl rfl ?_
  intro b1
  refine al_q (q_assign rfl) rfl rfl rfl ?_
  refine al_end ?_
  refine aq_then ?_
  refine ac_seq ?_
  refine ac_seq ?_
  refine ac_region ?_
  refine al_q (q_move rfl) rfl rfl rfl ?_
  refine al_q (q_lenS rfl Tryz.runUnderlying47) rfl rfl rfl ?_
  refine al_q (q_gtr rfl rfl) rfl rfl rfl ?_
  refine al_end ?_
  refine aq_then ?_
  refine ac_cond rfl (fun h1 => ?_) (fun h1 => ?_)
  · skip
    refine ac_seq ?_
    refine ac_region ?_
    refine al_call Tryz.call8 .nil rfl rfl (fun w1 hs1 => ?_)
    refine (awake3_any _).mono ?_
    rintro e u1 ⟨rfl, hb_1⟩
    refine ⟨_, rfl, hb_1, ?_⟩
    clear hs1
    refine al_q (q_assign rfl) rfl rfl rfl ?_
    refine al_end ?_
    refine aq_then ?_
    refine ac_ret ?_
    refine aq_thenR ?_
    refine ret1 Tryz.results6 rfl (fun w9 hs => ?_)
    exact ⟨rfl, hs.below⟩
  · have hn : n ≤ 60 := by have := of_decide_eq_false h1; omega
    refine ac_skip ?_
    refine aq_then ?_
    refine ac_seq ?_
    refine ac_seq ?_
    refine ac_region ?_
    refine al_q (q_assign rfl) rfl rfl rfl ?_
    refine al_end ?_
    refine aq_then ?_
    refine ac_block ?_
    refine ac_loop (β := Nat) (fun k => k ≤ n ∧ ∀ j, j < k → BriefB R (xA xs j).1) (fun k => [(1, (.slice A n c)), (2, (.pointer (some ⟨b1, 0, none⟩))), (4, (.bool false)), (5, (.int .i64 (k : Int)))]) (fun _ => _) (fun k => [(b1, _)]) (fun k => n - k) 0 ⟨by omega, fun j h => by omega⟩ ⟨rfl, rfl, rfl, rfl, trivial⟩ (fun w9 hs => hs) (fun k hF1 => ?_)
    refine ac_seq ?_
    refine ac_seq ?_
    refine ac_region ?_
    refine al_q (q_move rfl) rfl rfl rfl ?_
    refine al_q (q_move rfl) rfl rfl rfl ?_
    refine al_q (q_lenS rfl Tryz.runUnderlying47) rfl rfl rfl ?_
    refine al_q (q_lss rfl rfl) rfl rfl rfl ?_
    refine al_end ?_
    refine aq_then ?_
    refine ac_cond rfl (fun h2 => ?_) (fun h2 => ?_)
    · have hkn : k < n := by have := of_decide_eq_true h2; omega
      obtain ⟨b11, o11, hA1, hlt1, hget1⟩ := hI.2 (by omega)
      have hx1 := xA_get (xs := xs) (k := k) (by omega)
      refine ac_skip ?_
      refine aq_then ?_
      refine ac_seq ?_
      refine ac_block ?_
      refine ac_seq ?_
      refine ac_draw 6 (by kernel_rfl) (by kernel_rfl) ?_
      refine ah_take 0 (fun w9 hs => hs) rfl rfl rfl (by kernel_rfl) (by kernel_rfl) (by kernel_rfl) (fun _ _ _ h => h) rfl (q_loadAll (i := 0) rfl rfl Tryz.isAgg29 Tryz.sizeOf29 rfl) ?_
      refine ah_take 1 (fun w9 hs => hs) rfl rfl rfl (by kernel_rfl) (by kernel_rfl) (by kernel_rfl) (fun _ _ _ h => h) rfl (q_move rfl) ?_
      refine ah_take 2 (fun w9 hs => hs) rfl rfl rfl (by kernel_rfl) (by kernel_rfl) (by kernel_rfl) (fun _ _ _ h => h) rfl (q_move rfl) ?_
      refine ah_take 3 (fun w9 hs => hs) rfl rfl rfl (by kernel_rfl) (by kernel_rfl) (by kernel_rfl) (fun _ _ _ h => h) rfl (q_indexAddrA (i := k) (o11 + k * 6 + 0) hA1 rfl rfl rfl (by omega) Tryz.runUnderlying47 Tryz.sizeOf35 rfl) ?_
      refine ah_take 4 (fun w9 hs => hs) rfl rfl rfl (by kernel_rfl) (by kernel_rfl) (by kernel_rfl) (fun _ _ _ h => h) rfl (q_loadXs (stC (xA xs k).1 (xA xs k).2.tick) rfl Tryz.isAgg35 Tryz.sizeOf35 (fun w9 hs j9 v9 h9 => by rw [addr_add]; exact (hs.below.cell (p := ⟨_, _, none⟩) hlt1).trans ((hget1 k _ hx1) j9 v9 h9)) rfl) ?_
      refine ah_one 5 rfl (by kernel_rfl) (fun hok1 hcl1 => ?_)
      refine al_call Tryz.call7 (.cons rfl (.cons rfl .nil)) rfl rfl (fun w2 hs2 => ?_)
      refine (brief3_any R M (xA xs k).1 (xA xs k).2 _).mono ?_
      rintro e u2 ⟨bb, rfl, hbb, hb_2⟩
      refine ⟨_, rfl, hb_2, ?_⟩
      clear hs2
      refine al_end (ah_back hok1 hcl1 (fun w9 hs => (hs.fewer 1 rfl)) ?_)
      refine ah_take 6 (fun w9 hs => (hs.fewer 1 rfl)) rfl rfl rfl (by kernel_rfl) (by kernel_rfl) (by kernel_rfl) (fun _ _ _ h => h) rfl (q_not rfl) ?_
      refine ah_done (by kernel_rfl) ?_
      refine aq_then ?_
      refine ac_cond rfl (fun h3 => ?_) (fun h3 => ?_)
      · skip
        refine ac_seq ?_
        refine ac_region ?_
        refine al_call Tryz.call8 .nil rfl rfl (fun w3 hs3 => ?_)
        refine (awake3_any _).mono ?_
        rintro e u3 ⟨rfl, hb_3⟩
        refine ⟨_, rfl, hb_3, ?_⟩
        clear hs3
        refine al_q (q_assign rfl) rfl rfl rfl ?_
        refine al_end ?_
        refine aq_then ?_
        refine ac_ret ?_
        refine aq_inR ?_
        refine aq_thenR ?_
        refine aq_thenR ?_
        refine aq_inR ?_
        refine aq_thenR ?_
        refine ret1 Tryz.results6 rfl (fun w9 hs => ?_)
        exact ⟨rfl, hs.below⟩
      · have hB := hbb (by simpa using h3)
        refine ac_skip ?_
        refine aq_inN ?_
        refine aq_then ?_
        refine ac_region ?_
        refine al_q (q_move rfl) rfl rfl rfl ?_
        refine al_q (q_add rfl rfl (by omega)) rfl rfl rfl ?_
        refine al_q (q_assign rfl) rfl rfl rfl ?_
        refine al_end ?_
        refine aq_then ?_
        skip
        refine aq_round (k + 1) (by omega) ⟨by omega, fun j h1 => (Nat.lt_or_ge j k).elim (fun g => hF1.2 j g) (fun g => by (have e : j = k := by omega); rw [e]; exact hB)⟩ ⟨rfl, rfl, rfl, rfl, trivial⟩ (fun w9 hs => (hs.fewer 1 rfl))
    · have hke : k = n := by have := of_decide_eq_false h2; omega
      have hm : 0 < n → IsM w R M := fun h => by
        obtain ⟨⟨g1, g2, g3, g4⟩, -⟩ := hF1.2 0 (by omega)
        exact hM0 (by omega) (by omega) (by omega) (by omega)
      have hX : ∀ p ∈ xs, IsS w p.1 p.2 := fun p hp => by
        obtain ⟨j, hj⟩ := List.getElem?_of_mem hp
        have hl := (List.getElem?_eq_some_iff.1 hj).1
        obtain ⟨-, g1, g2, g3, g4⟩ := hF1.2 j (by omega)
        rw [xA_of hj] at g1 g2 g3 g4
        exact hX0 p hp (by omega) (by omega) (by omega) (by omega)
      refine ac_exit ?_
      refine aq_thenE ?_
      refine aq_thenE ?_
      refine aq_hit ?_
      refine aq_then ?_
      refine ac_seq ?_
      refine ac_region ?_
      refine al_q (q_loadAll (i := 0) rfl rfl Tryz.isAgg29 Tryz.sizeOf29 rfl) rfl rfl rfl ?_
      refine al_q (q_move rfl) rfl rfl rfl ?_
      refine al_call Tryz.call19 (.cons rfl (.cons rfl .nil)) rfl rfl (fun w4 hs4 => ?_)
      refine (cswing_any R M A n c xs _ (hO.below hs4.below) (fun h => (hm h).below hs4.below) (hI.below hs4.below) (fun p hp => (hX p hp).below hs4.below) (by omega)).mono ?_
      rintro e u4 ⟨rfl, hb_4⟩
      refine ⟨_, rfl, hb_4, ?_⟩
      clear hs4
      refine al_q (q_move rfl) rfl rfl rfl ?_
      refine al_q (q_extract rfl rfl) rfl rfl rfl ?_
      refine al_q (q_extract rfl rfl) rfl rfl rfl ?_
      refine al_q (q_assign rfl) rfl rfl rfl ?_
      refine al_q (q_assign rfl) rfl rfl rfl ?_
      refine al_end ?_
      refine aq_then ?_
      refine ac_seq ?_
      refine ac_region ?_
      refine al_q (q_loadAll (i := 0) rfl rfl Tryz.isAgg29 Tryz.sizeOf29 rfl) rfl rfl rfl ?_
      refine al_q (q_move rfl) rfl rfl rfl ?_
      refine al_call Tryz.call20 (.cons rfl (.cons rfl .nil)) rfl rfl (fun w5 hs5 => ?_)
      refine (rswing_any R M A n c xs _ (hO.below hs5.below) (fun h => (hm h).below hs5.below) (hI.below hs5.below) (fun p hp => (hX p hp).below hs5.below) (by omega)).mono ?_
      rintro e u5 ⟨rfl, hb_5⟩
      refine ⟨_, rfl, hb_5, ?_⟩
      clear hs5
      refine al_q (q_move rfl) rfl rfl rfl ?_
      refine al_q (q_extract rfl rfl) rfl rfl rfl ?_
      refine al_q (q_extract rfl rfl) rfl rfl rfl ?_
      refine al_q (q_assign rfl) rfl rfl rfl ?_
      refine al_q (q_assign rfl) rfl rfl rfl ?_
      refine al_end ?_
      refine aq_then ?_
      refine ac_seq ?_
      refine ac_seq ?_
      refine ac_region ?_
      refine al_q (q_move rfl) rfl rfl rfl ?_
      refine al_q (q_move rfl) rfl rfl rfl ?_
      refine al_q (q_same (v' := .bool false) (q_neq rfl rfl) (by simp)) rfl rfl rfl ?_
      refine al_q (q_move rfl) rfl rfl rfl ?_
      refine al_q (q_move rfl) rfl rfl rfl ?_
      refine al_q (q_move rfl) rfl rfl rfl ?_
      refine al_q (q_same (v' := .bool false) (q_neq rfl rfl) (by simp)) rfl rfl rfl ?_
      refine al_q (q_pickF rfl rfl) rfl rfl rfl ?_
      refine al_end ?_
      refine aq_then ?_
      refine ac_condF rfl ?_
      refine ac_skip ?_
      refine aq_then ?_
      refine ac_seq ?_
      refine ac_seq ?_
      refine ac_region ?_
      refine al_q (q_move rfl) rfl rfl rfl ?_
      refine al_q (q_neq rfl rfl) rfl rfl rfl ?_
      refine al_q (q_move rfl) rfl rfl rfl ?_
      refine aq_split 55 rfl (fun hb1 => ?_) (fun hb1 => ?_)
      · skip
        refine al_skip rfl rfl rfl ?_
        refine al_skip rfl rfl rfl ?_
        refine al_skip rfl rfl rfl ?_
        refine al_q (q_pickT rfl rfl) rfl rfl rfl ?_
        refine al_end ?_
        refine aq_then ?_
        refine ac_condT rfl ?_
        refine ac_seq ?_
        refine ac_region ?_
        refine al_call Tryz.call8 .nil rfl rfl (fun w6 hs6 => ?_)
        refine (awake3_any _).mono ?_
        rintro e u6 ⟨rfl, hb_6⟩
        refine ⟨_, rfl, hb_6, ?_⟩
        clear hs6
        refine al_q (q_assign rfl) rfl rfl rfl ?_
        refine al_end ?_
        refine aq_then ?_
        refine ac_ret ?_
        refine aq_thenR ?_
        refine ret1 Tryz.results6 rfl (fun w9 hs => ?_)
        exact ⟨rfl, hs.below⟩
      · have hE : (swL M xs).2 = 0 := by simpa using hb1
        refine al_q (q_move rfl) rfl rfl rfl ?_
        refine al_q (q_lenS rfl Tryz.runUnderlying47) rfl rfl rfl ?_
        refine al_q (q_lss rfl rfl) rfl rfl rfl ?_
        refine al_q (q_pickF rfl rfl) rfl rfl rfl ?_
        refine al_end ?_
        refine aq_then ?_
        refine ac_cond rfl (fun h4 => ?_) (fun h4 => ?_)
        · skip
          refine ac_seq ?_
          refine ac_region ?_
          refine al_call Tryz.call8 .nil rfl rfl (fun w7 hs7 => ?_)
          refine (awake3_any _).mono ?_
          rintro e u7 ⟨rfl, hb_7⟩
          refine ⟨_, rfl, hb_7, ?_⟩
          clear hs7
          refine al_q (q_assign rfl) rfl rfl rfl ?_
          refine al_end ?_
          refine aq_then ?_
          refine ac_ret ?_
          refine aq_thenR ?_
          refine ret1 Tryz.results6 rfl (fun w9 hs => ?_)
          exact ⟨rfl, hs.below⟩
        · have hn2 : 2 ≤ n := by have := of_decide_eq_false h4; omega
          obtain ⟨b11, o11, hA1, hlt1, hget1⟩ := hI.2 (by omega)
          have hI2 : IsT 6 (fun x : StR × StD => stC x.1 x.2.tick) w (some ⟨b11, o11, none⟩) n xs := by rw [← hA1]; exact hI
          have hh : ((n : Nat) : Int).tdiv 2 = ((n / 2 : Nat) : Int) := by rw [Int.tdiv_eq_ediv_of_nonneg (by omega)]; omega
          obtain ⟨hc1, hc2, hc3⟩ := sw_cut (M := M) (xs := xs) (h := n / 2) (by omega) hE
          have hsb := sw_bd M xs
          refine ac_skip ?_
          refine aq_then ?_
          refine ac_seq ?_
          refine ac_region ?_
          refine al_q (q_move rfl) rfl rfl rfl ?_
          refine al_q (q_lenS rfl Tryz.runUnderlying47) rfl rfl rfl ?_
          refine al_q (q_quo rfl rfl (by omega)) rfl rfl rfl ?_
          refine al_q (q_assign rfl) rfl rfl rfl ?_
          refine al_end ?_
          refine aq_then ?_
          refine ac_seq ?_
          refine ac_draw 12 (by kernel_rfl) (by kernel_rfl) ?_
          refine ah_take 0 (fun w9 hs => hs) rfl rfl rfl (by kernel_rfl) (by kernel_rfl) (by kernel_rfl) (fun _ _ _ h => h) rfl (q_loadAll (i := 0) rfl rfl Tryz.isAgg29 Tryz.sizeOf29 rfl) ?_
          refine ah_take 1 (fun w9 hs => hs) rfl rfl rfl (by kernel_rfl) (by kernel_rfl) (by kernel_rfl) (fun _ _ _ h => h) rfl (q_move rfl) ?_
          refine ah_take 2 (fun w9 hs => hs) rfl rfl rfl (by kernel_rfl) (by kernel_rfl) (by kernel_rfl) (fun _ _ _ h => h) rfl (q_move rfl) ?_
          refine ah_take 3 (fun w9 hs => hs) rfl rfl rfl (by kernel_rfl) (by kernel_rfl) (by kernel_rfl) (fun _ _ _ h => h) rfl (q_add rfl rfl (by omega)) ?_
          refine ah_take 4 (fun w9 hs => hs) rfl rfl rfl (by kernel_rfl) (by kernel_rfl) (by kernel_rfl) (fun _ _ _ h => h) rfl (q_move rfl) ?_
          refine ah_take 5 (fun w9 hs => hs) rfl rfl rfl (by kernel_rfl) (by kernel_rfl) (by kernel_rfl) (fun _ _ _ h => h) rfl (q_add rfl rfl (by omega)) ?_
          refine ah_take 6 (fun w9 hs => hs) rfl rfl rfl (by kernel_rfl) (by kernel_rfl) (by kernel_rfl) (fun _ _ _ h => h) rfl (q_uptoM (hi := n / 2 + 1) (mx := n / 2 + 1) rfl rfl rfl (by rw [hh]; omega) (by rw [hh]; omega) (by omega) (by omega) Tryz.underlying47 Tryz.sizeOf35) ?_
          refine ah_one 7 rfl (by kernel_rfl) (fun hok2 hcl2 => ?_)
          refine al_call Tryz.call19 (.cons rfl (.cons rfl .nil)) rfl rfl (fun w8 hs8 => ?_)
          refine (cswing_any R M A (n / 2 + 1) (n / 2 + 1) (xs.take (n / 2 + 1)) _ (hO.below hs8.below) (fun h => (hm (by omega)).below hs8.below) ((hI.take (by omega)).below hs8.below) (fun p hp => (hX p (List.mem_of_mem_take hp)).below hs8.below) (by omega)).mono ?_
          rintro e u8 ⟨rfl, hb_8⟩
          refine ⟨_, rfl, hb_8, ?_⟩
          clear hs8
          refine al_end (ah_back hok2 hcl2 (fun w9 hs => (hs.fewer 1 rfl)) ?_)
          refine ah_take 8 (fun w9 hs => (hs.fewer 1 rfl)) rfl rfl rfl (by kernel_rfl) (by kernel_rfl) (by kernel_rfl) (fun _ _ _ h => h) rfl (q_move rfl) ?_
          refine ah_take 9 (fun w9 hs => (hs.fewer 1 rfl)) rfl rfl rfl (by kernel_rfl) (by kernel_rfl) (by kernel_rfl) (fun _ _ _ h => h) rfl (q_extract rfl rfl) ?_
          refine ah_take 10 (fun w9 hs => (hs.fewer 1 rfl)) rfl rfl rfl (by kernel_rfl) (by kernel_rfl) (by kernel_rfl) (fun _ _ _ h => h) rfl (q_extract rfl rfl) ?_
          refine ah_one 11 rfl (by kernel_rfl) (fun hok3 hcl3 => ?_)
          refine al_q (q_assign rfl) rfl rfl rfl ?_
          refine al_end (ah_back hok3 hcl3 (fun w9 hs => (hs.fewer 1 rfl)) ?_)
          refine ah_one 12 rfl (by kernel_rfl) (fun hok4 hcl4 => ?_)
          refine al_q (q_assign rfl) rfl rfl rfl ?_
          refine al_end (ah_last (by kernel_rfl) ?_)
          refine aq_then ?_
          refine aq_keepL [1, 2, 4, 6, 10, 11, 12] (.cons rfl (.cons rfl (.cons rfl (.cons rfl (.cons rfl (.cons rfl (.cons rfl .nil))))))) ?_
          refine ac_seq ?_
          refine ac_draw 9 (by kernel_rfl) (by kernel_rfl) ?_
          refine ah_take 0 (fun w9 hs => hs) rfl rfl rfl (by kernel_rfl) (by kernel_rfl) (by kernel_rfl) (fun _ _ _ h => h) rfl (q_loadAll (i := 0) rfl rfl Tryz.isAgg29 Tryz.sizeOf29 rfl) ?_
          refine ah_take 1 (fun w9 hs => hs) rfl rfl rfl (by kernel_rfl) (by kernel_rfl) (by kernel_rfl) (fun _ _ _ h => h) rfl (q_move rfl) ?_
          refine ah_take 2 (fun w9 hs => hs) rfl rfl rfl (by kernel_rfl) (by kernel_rfl) (by kernel_rfl) (fun _ _ _ h => h) rfl (q_move rfl) ?_
          refine ah_take 3 (fun w9 hs => hs) rfl rfl rfl (by kernel_rfl) (by kernel_rfl) (by kernel_rfl) (fun _ _ _ h => h) rfl (q_fromA (lo := n / 2) hA1 rfl rfl hh (by omega) (by omega) (by omega) Tryz.underlying47 Tryz.sizeOf35) ?_
          refine ah_one 4 rfl (by kernel_rfl) (fun hok5 hcl5 => ?_)
          refine al_call Tryz.call19 (.cons rfl (.cons rfl .nil)) rfl rfl (fun w9 hs9 => ?_)
          refine (cswing_any R M (some ⟨b11, o11 + n / 2 * 6, none⟩) (n - n / 2) (c - n / 2) (xs.drop (n / 2)) _ (hO.below hs9.below) (fun h => (hm (by omega)).below hs9.below) ((hI2.drop (n / 2)).below hs9.below) (fun p hp => (hX p (List.mem_of_mem_drop hp)).below hs9.below) (by omega)).mono ?_
          rintro e u9 ⟨rfl, hb_9⟩
          refine ⟨_, rfl, hb_9, ?_⟩
          clear hs9
          refine al_end (ah_back hok5 hcl5 (fun w9 hs => (hs.fewer 1 rfl)) ?_)
          refine ah_take 5 (fun w9 hs => (hs.fewer 1 rfl)) rfl rfl rfl (by kernel_rfl) (by kernel_rfl) (by kernel_rfl) (fun _ _ _ h => h) rfl (q_move rfl) ?_
          refine ah_take 6 (fun w9 hs => (hs.fewer 1 rfl)) rfl rfl rfl (by kernel_rfl) (by kernel_rfl) (by kernel_rfl) (fun _ _ _ h => h) rfl (q_extract rfl rfl) ?_
          refine ah_take 7 (fun w9 hs => (hs.fewer 1 rfl)) rfl rfl rfl (by kernel_rfl) (by kernel_rfl) (by kernel_rfl) (fun _ _ _ h => h) rfl (q_extract rfl rfl) ?_
          refine ah_one 8 rfl (by kernel_rfl) (fun hok6 hcl6 => ?_)
          refine al_q (q_assign rfl) rfl rfl rfl ?_
          refine al_end (ah_back hok6 hcl6 (fun w9 hs => (hs.fewer 1 rfl)) ?_)
          refine ah_one 9 rfl (by kernel_rfl) (fun hok7 hcl7 => ?_)
          refine al_q (q_assign rfl) rfl rfl rfl ?_
          refine al_end (ah_last (by kernel_rfl) ?_)
          refine aq_then ?_
          refine ac_seq ?_
          refine ac_region ?_
          refine al_q (q_move rfl) rfl rfl rfl ?_
          refine al_q (q_same (v' := .bool true) (q_eql rfl rfl) (by rw [hc1]; rfl)) rfl rfl rfl ?_
          refine al_q (q_move rfl) rfl rfl rfl ?_
          refine al_q (q_move rfl) rfl rfl rfl ?_
          refine al_q (q_same (v' := .bool true) (q_eql rfl rfl) (by rw [hc2]; rfl)) rfl rfl rfl ?_
          refine al_q (q_pickT rfl rfl) rfl rfl rfl ?_
          refine al_q (q_move rfl) rfl rfl rfl ?_
          refine al_q (q_move rfl) rfl rfl rfl ?_
          refine al_q (q_move rfl) rfl rfl rfl ?_
          refine al_q (q_add rfl rfl (by omega)) rfl rfl rfl ?_
          refine al_q (q_move rfl) rfl rfl rfl ?_
          refine al_q (q_same (v' := .bool true) (q_eql rfl rfl) (by rw [hc3]; simp)) rfl rfl rfl ?_
          refine al_q (q_pickT rfl rfl) rfl rfl rfl ?_
          refine al_q (q_move rfl) rfl rfl rfl ?_
          refine al_call Tryz.call8 .nil rfl rfl (fun w10 hs10 => ?_)
          refine (awake3_any _).mono ?_
          rintro e u10 ⟨rfl, hb_10⟩
          refine ⟨_, rfl, hb_10, ?_⟩
          clear hs10
          refine al_q (q_pickT rfl rfl) rfl rfl rfl ?_
          refine al_q (q_assign rfl) rfl rfl rfl ?_
          refine al_end ?_
          refine aq_then ?_
          refine ac_ret ?_
          refine ret1 Tryz.results6 rfl (fun w9 hs => ?_)
          exact ⟨rfl, hs.below⟩

end Go.Proofs.YtkhahbnagbjbiaaGreat
end
section
/- The frame of the laws over spans: how an argument that is a span or a Pair is opened and shut, over this seat's translation. -/
namespace Go.Proofs.YtkhahbnagbjbiaaGreat
set_option linter.unusedVariables false
set_option linter.unusedSimpArgs false
set_option maxRecDepth 100000
open Go.ChangeShapes Go.WideShapes Go.ChangeAt Go.RowKit Go.Joins

theorem own : ownKnob Tryz.prog.godebug = none := by kernel_rfl

theorem cells_int : Tryz.prog.cellsOf 3 = 1 := by kernel_rfl

section
variable {H : Type} {enc : TypeId × Value → H}

end

end Go.Proofs.YtkhahbnagbjbiaaGreat
end
section
/- The frame of the laws over pairs: how an argument that is a list of items of n cells is opened, over this seat's translation. -/
namespace Go.Proofs.YtkhahbnagbjbiaaGreat
set_option linter.unusedVariables false
set_option linter.unusedSimpArgs false
set_option maxRecDepth 100000
open Go.ChangeShapes Go.WideShapes Go.ChangeAt Go.RowKit Go.Joins Go.Deep

section
variable {H : Type} {enc : TypeId × Value → H}

/-- A list that reads is a list of items, where each item that reads is one. -/
theorem open_isT {α : Type} {E : α → List Value} {n : Nat} (h0 : ∀ x, (E x).length = n) {t e : TypeId} {W : World} {b0 : Nat} {r : Reach} {v : Value} {d : DataW H} {p : List MemPlace}
    (ht : Tryz.prog.underlying t = some (.slice e)) (hc : Tryz.prog.cellsOf e = n) (hn : 0 < n)
    (dec : ∀ (fuel : Nat) (cs : List Value) (y : DataW H × List MemPlace), DataW.trod enc Tryz.prog W 0 (fun _ => true) true fuel e cs = some y → ∃ x : α, cs = E x)
    (hv : Value.okWide Tryz.prog W r b0 t v) (h : DataW.Trod enc Tryz.prog W 0 (fun _ => true) true t v d p) :
    ∃ (A : Option Addr) (len cap : Nat) (zs : List α), v = .slice A len cap ∧ IsT n E W A len zs ∧ len ≤ maxLen ∧ len ≤ cap ∧ cap ≤ maxLen := by
  obtain ⟨a, len, cap, rfl⟩ := okWide_slice ht hv
  obtain ⟨fuel, hf⟩ := h
  rcases open_slice ht hf with ⟨hcs, hx⟩ | ⟨a', len', cap', m, k, D, Pl, hcs, hb, hl, hm, hmm, hx, hi⟩
  · have hcs : [Value.slice a len cap] = [Value.slice none 0 0] := hcs
    injection hcs with hcs _
    injection hcs with e1 e2 e3
    subst e1 e2 e3
    exact ⟨_, _, _, [], rfl, IsT.nil _ _ _ _, Nat.zero_le _, Nat.zero_le _, Nat.zero_le _⟩
  · have hcs : [Value.slice a len cap] = [Value.slice (some a') len' cap'] := hcs
    injection hcs with hcs _
    injection hcs with e1 e2 e3
    subst e1 e2 e3
    simp only [if_true] at hmm
    subst hmm
    have each : ∀ i, i < len → ∃ x : α, ∀ j, j < n → W.cell? (a'.add (i * n + j)) = (E x)[j]? := fun i hil => by
      obtain ⟨cs', h1, h2⟩ := hi i (by omega)
      obtain ⟨x, rfl⟩ := dec _ _ _ h2
      rw [hc] at h1
      obtain ⟨_, _, hcell⟩ := World.cells?_some h1
      refine ⟨x, fun j hj => ?_⟩
      have := hcell j hj
      rwa [add_add] at this
    by_cases hz : len = 0
    · subst hz
      exact ⟨_, _, _, [], rfl, IsT.nil _ _ _ _, Nat.zero_le _, Nat.zero_le _, hm⟩
    · obtain ⟨x0, _⟩ := each 0 (by omega)
      haveI : Inhabited α := ⟨x0⟩
      obtain ⟨z, hz'⟩ := choose_lt each
      refine ⟨_, _, _, (List.range len).map z, rfl, ⟨by simp, fun _ => ?_⟩, Nat.le_trans hl hm, hl, hm⟩
      have c0 := hz' 0 (by omega) 0 hn
      obtain ⟨v0, hv0⟩ : ∃ v0, (E (z 0))[0]? = some v0 := ⟨_, List.getElem?_eq_getElem (by rw [h0]; exact hn)⟩
      rw [hv0] at c0
      have hlt := World.block_lt_of_cell? W _ c0
      have hsp := World.cell?_spot c0
      obtain ⟨b, off, spot⟩ := a'
      have hspot : spot = none := by simpa [Addr.add] using hsp
      subst hspot
      rw [block_add] at hlt
      refine ⟨b, off, rfl, hlt, fun j x hx i v hv => ?_⟩
      have hj : j < len := by
        have := (List.getElem?_eq_some_iff.1 hx).1
        simpa using this
      have hx' : x = z j := by
        rw [List.getElem?_map, List.getElem?_range hj] at hx
        simpa using hx.symm
      subst hx'
      have hin : i < n := by
        have := (List.getElem?_eq_some_iff.1 hv).1
        rwa [h0] at this
      have := hz' j hj i hin
      rw [add_plain, hv] at this
      rw [← this]
      congr 2
      omega

end

end Go.Proofs.YtkhahbnagbjbiaaGreat
end
