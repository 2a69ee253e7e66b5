import Derived.Test.YtcjndnadibbcbaaJAA
import Derived.Test.YtcjndnadibbcbaaJAB
import Derived.Test.YtcjndnadibbcbaaJBF
import Derived.Test.YtcjndnadibbcbaaRows
import Derived.KernelRfl
import Derived.Laws.StructEq
import Derived.ProofKit
import Derived.OpenShut
import Derived.Lib.SmallJoins
import Derived.Deep.Slices
import Derived.Carry
section
/- The laws CircuitBegins, CircuitRests, over this seat's translation (written by ax_ci14.py). -/
namespace Go.Proofs.Ytcjndnadibbcbaa
set_option linter.unusedVariables false
set_option linter.unusedSimpArgs false
open Go.RowKit

set_option maxRecDepth 100000 in
theorem begins_walk (R : MachR) (M : MachD) (RS : StR) (S : StD) (w : World) (hM0 : R.la ≤ 1000000000000000 → R.lb ≤ 1000000000000000 → R.lc ≤ 1000000000000000 → R.ld ≤ 1000000000000000 → IsM w R M) (hS0 : RS.Q.la ≤ 1000000000000000 → RS.Q.lb ≤ 1000000000000000 → RS.Q.lc ≤ 1000000000000000 → RS.lh ≤ 1000000000000000 → IsS w RS S) : Calls Try.prog 3 #[(.agg (machCells R M)), (RS.v S.tick)] w (Ret (.bool true) w) := by
  refine calls_ax (vs := [(.agg (machCells R M)), (RS.v S.tick)]) Try.func3 rfl rfl ?_
  refine ac_seq ?_
  refine ac_region ?_
  refine al_new (fun b => .pointer (some ⟨b, 0, none⟩)) (r_box rfl rfl) rfl rfl rfl ?_
  intro b1
  refine al_new (fun b => .pointer (some ⟨b, 0, none⟩)) (r_box rfl rfl) rfl rfl rfl ?_
  intro b2
  refine al_q (q_assign rfl) rfl rfl rfl ?_
  refine al_end ?_
  refine aq_then ?_
  refine ac_seq ?_
  refine ac_seq ?_
  refine ac_region ?_
  refine al_q (q_loadAll (i := 1) rfl rfl Try.isAgg29 Try.sizeOf29 rfl) rfl rfl rfl ?_
  refine al_q (q_loadAll (i := 0) rfl rfl Try.isAgg35 Try.sizeOf35 rfl) rfl rfl rfl ?_
  refine al_call Try.call9 (.cons rfl (.cons rfl .nil)) rfl rfl (fun w1 hs1 => ?_)
  refine (brief3_any R M RS S _).mono ?_
  rintro e u1 ⟨bb, rfl, hbb, hb_1⟩
  refine ⟨_, rfl, hb_1, ?_⟩
  clear hs1
  refine al_q (q_not rfl) rfl rfl rfl ?_
  refine al_end ?_
  refine aq_then ?_
  refine ac_cond rfl (fun h1 => ?_) (fun h1 => ?_)
  · skip
    refine ac_seq ?_
    refine ac_region ?_
    refine al_call Try.call10 .nil rfl rfl (fun w2 hs2 => ?_)
    refine (awake3_any _).mono ?_
    rintro e u2 ⟨rfl, hb_2⟩
    refine ⟨_, rfl, hb_2, ?_⟩
    clear hs2
    refine al_q (q_assign rfl) rfl rfl rfl ?_
    refine al_end ?_
    refine aq_then ?_
    refine ac_ret ?_
    refine aq_thenR ?_
    refine ret1 Try.results3 rfl (fun w9 hs => ?_)
    exact ⟨rfl, hs.below⟩
  · have hB := hbb (by simpa using h1)
    obtain ⟨⟨m1, m2, m3, m4⟩, m5, m6, m7, m8⟩ := hB
    have hM := hM0 (by omega) (by omega) (by omega) (by omega)
    have hS := hS0 (by omega) (by omega) (by omega) (by omega)
    refine ac_skip ?_
    refine aq_then ?_
    refine ac_seq ?_
    refine ac_region ?_
    refine al_q (q_loadAll (i := 1) rfl rfl Try.isAgg29 Try.sizeOf29 rfl) rfl rfl rfl ?_
    refine al_call Try.call11 (.cons rfl .nil) rfl rfl (fun w3 hs3 => ?_)
    refine (cbegin_any R M _ (hM.below hs3.below)).mono ?_
    rintro e u3 ⟨x, nx, rfl, k1_, k2_, hb_3⟩
    obtain ⟨rfl, X_x, N_x⟩ := outS_data k1_ k2_
    refine ⟨_, rfl, hb_3, ?_⟩
    clear hs3
    refine al_q (q_move rfl) rfl rfl rfl ?_
    refine al_q (q_extract rfl rfl) rfl rfl rfl ?_
    refine al_q (q_extract rfl rfl) rfl rfl rfl ?_
    refine al_new (fun b => .pointer (some ⟨b, 0, none⟩)) (r_alloc Try.zeroValue35 rfl) rfl rfl rfl ?_
    intro b3
    refine al_storeAll (i := 0) rfl rfl rfl rfl Try.sizeOf35 rfl rfl .k0 rfl ?_
    refine al_q (q_assign rfl) rfl rfl rfl ?_
    refine al_end ?_
    refine aq_then ?_
    refine ac_seq ?_
    refine ac_region ?_
    refine al_q (q_loadAll (i := 2) rfl rfl Try.isAgg29 Try.sizeOf29 rfl) rfl rfl rfl ?_
    refine al_call Try.call12 (.cons rfl .nil) rfl rfl (fun w4 hs4 => ?_)
    refine (rbegin_any R M _ (hM.below hs4.below)).mono ?_
    rintro e u4 ⟨y, ny, rfl, k1_, k2_, hb_4⟩
    obtain ⟨rfl, X_y, N_y⟩ := outS_data k1_ k2_
    refine ⟨_, rfl, hb_4, ?_⟩
    clear hs4
    refine al_q (q_move rfl) rfl rfl rfl ?_
    refine al_q (q_extract rfl rfl) rfl rfl rfl ?_
    refine al_q (q_extract rfl rfl) rfl rfl rfl ?_
    refine al_new (fun b => .pointer (some ⟨b, 0, none⟩)) (r_alloc Try.zeroValue35 rfl) rfl rfl rfl ?_
    intro b4
    refine al_storeAll (i := 0) rfl rfl rfl rfl Try.sizeOf35 rfl rfl .k0 rfl ?_
    refine al_q (q_assign rfl) rfl rfl rfl ?_
    refine al_end ?_
    refine aq_then ?_
    refine ac_seq ?_
    refine ac_draw 20 (by kernel_rfl) (by kernel_rfl) ?_
    refine ah_take 0 (fun w9 hs => hs) rfl rfl rfl (by kernel_rfl) (by kernel_rfl) (by kernel_rfl) (fun _ _ _ h => h) rfl (q_loadAll (i := 3) rfl rfl Try.isAgg29 Try.sizeOf29 rfl) ?_
    refine ah_take 1 (fun w9 hs => hs) rfl rfl rfl (by kernel_rfl) (by kernel_rfl) (by kernel_rfl) (fun _ _ _ h => h) rfl (q_loadAll (i := 2) rfl rfl Try.isAgg35 Try.sizeOf35 rfl) ?_
    refine ah_take 3 (fun w9 hs => hs) rfl rfl rfl (by kernel_rfl) (by kernel_rfl) (by kernel_rfl) (fun _ _ _ h => h) rfl (q_loadAll (i := 3) rfl rfl Try.isAgg29 Try.sizeOf29 rfl) ?_
    refine ah_take 4 (fun w9 hs => hs) rfl rfl rfl (by kernel_rfl) (by kernel_rfl) (by kernel_rfl) (fun _ _ _ h => h) rfl (q_loadAll (i := 2) rfl rfl Try.isAgg35 Try.sizeOf35 rfl) ?_
    refine ah_one 2 rfl (by kernel_rfl) (fun hok1 hcl1 => ?_)
    refine al_call Try.call13 (.cons rfl (.cons rfl .nil)) rfl rfl (fun w5 hs5 => ?_)
    refine (validState_any R M RS S _ (hM.below hs5.below) (hS.below hs5.below)).mono ?_
    rintro e u5 ⟨rfl, hb_5⟩
    refine ⟨_, rfl, hb_5, ?_⟩
    clear hs5
    refine al_end (ah_back hok1 hcl1 (fun w9 hs => (hs.fewer 1 rfl)) ?_)
    refine ah_one 5 rfl (by kernel_rfl) (fun hok2 hcl2 => ?_)
    refine al_call Try.call14 (.cons rfl (.cons rfl .nil)) rfl rfl (fun w6 hs6 => ?_)
    refine (rvalidState_any R M RS S _ (hM.below hs6.below) (hS.below hs6.below)).mono ?_
    rintro e u6 ⟨rfl, hb_6⟩
    refine ⟨_, rfl, hb_6, ?_⟩
    clear hs6
    refine al_end (ah_back hok2 hcl2 (fun w9 hs => (hs.fewer 2 rfl)) ?_)
    refine ah_take 6 (fun w9 hs => (hs.fewer 2 rfl)) rfl rfl rfl (by kernel_rfl) (by kernel_rfl) (by kernel_rfl) (fun _ _ _ h => h) rfl (q_same (v' := .bool true) (q_eqlB rfl rfl Try.underlying4) (by simp)) ?_
    refine ah_take 7 (fun w9 hs => (hs.fewer 2 rfl)) rfl rfl rfl (by kernel_rfl) (by kernel_rfl) (by kernel_rfl) (fun _ _ _ h => h) rfl (q_move rfl) ?_
    refine ah_take 8 (fun w9 hs => (hs.fewer 2 rfl)) rfl rfl rfl (by kernel_rfl) (by kernel_rfl) (by kernel_rfl) (fun _ _ _ h => h) rfl (q_move rfl) ?_
    refine ah_take 9 (fun w9 hs => (hs.fewer 2 rfl)) rfl rfl rfl (by kernel_rfl) (by kernel_rfl) (by kernel_rfl) (fun _ _ _ h => h) rfl (q_move rfl) ?_
    refine ah_take 10 (fun w9 hs => (hs.fewer 2 rfl)) rfl rfl rfl (by kernel_rfl) (by kernel_rfl) (by kernel_rfl) (fun _ _ _ h => h) rfl (q_same (v' := .bool true) (q_eql rfl rfl) (by simp)) ?_
    refine ah_take 11 (fun w9 hs => (hs.fewer 2 rfl)) rfl rfl rfl (by kernel_rfl) (by kernel_rfl) (by kernel_rfl) (fun _ _ _ h => h) rfl (q_pickT rfl rfl) ?_
    refine ah_take 12 (fun w9 hs => (hs.fewer 2 rfl)) rfl rfl rfl (by kernel_rfl) (by kernel_rfl) (by kernel_rfl) (fun _ _ _ h => h) rfl (q_move rfl) ?_
    refine ah_take 13 (fun w9 hs => (hs.fewer 2 rfl)) rfl rfl rfl (by kernel_rfl) (by kernel_rfl) (by kernel_rfl) (fun _ _ _ h => h) rfl (q_loadAll (i := 1) rfl rfl Try.isAgg35 Try.sizeOf35 rfl) ?_
    refine ah_take 14 (fun w9 hs => (hs.fewer 2 rfl)) rfl rfl rfl (by kernel_rfl) (by kernel_rfl) (by kernel_rfl) (fun _ _ _ h => h) rfl (q_loadAll (i := 0) rfl rfl Try.isAgg35 Try.sizeOf35 rfl) ?_
    refine ah_one 15 rfl (by kernel_rfl) (fun hok3 hcl3 => ?_)
    refine al_call Try.call15 (.cons rfl (.cons rfl .nil)) rfl rfl (fun w7 hs7 => ?_)
    refine (rsameS_any x y (endD (beginE M) (beginD M)) (endD (beginE M) (beginD M)) _ (hs7.isS (.tail _ (.tail _ (.tail _ (.head _)))) X_x N_x) (hs7.isS (.tail _ (.tail _ (.head _))) X_y N_y)).mono ?_
    rintro e u7 ⟨rfl, hb_7⟩
    refine ⟨_, rfl, hb_7, ?_⟩
    clear hs7
    refine al_end (ah_back hok3 hcl3 (fun w9 hs => (hs.fewer 3 rfl)) ?_)
    refine ah_take 16 (fun w9 hs => (hs.fewer 3 rfl)) rfl rfl rfl (by kernel_rfl) (by kernel_rfl) (by kernel_rfl) (fun _ _ _ h => h) rfl (q_pickT rfl rfl) ?_
    refine ah_take 17 (fun w9 hs => (hs.fewer 3 rfl)) rfl rfl rfl (by kernel_rfl) (by kernel_rfl) (by kernel_rfl) (fun _ _ _ h => h) rfl (q_same (v' := .bool true) (q_move rfl) (by rw [same_refl])) ?_
    refine ah_one 18 rfl (by kernel_rfl) (fun hok4 hcl4 => ?_)
    refine al_call Try.call10 .nil rfl rfl (fun w8 hs8 => ?_)
    refine (awake3_any _).mono ?_
    rintro e u8 ⟨rfl, hb_8⟩
    refine ⟨_, rfl, hb_8, ?_⟩
    clear hs8
    refine al_end (ah_back hok4 hcl4 (fun w9 hs => (hs.fewer 4 rfl)) ?_)
    refine ah_take 19 (fun w9 hs => (hs.fewer 4 rfl)) rfl rfl rfl (by kernel_rfl) (by kernel_rfl) (by kernel_rfl) (fun _ _ _ h => h) rfl (q_pickT rfl rfl) ?_
    refine ah_one 20 rfl (by kernel_rfl) (fun hok5 hcl5 => ?_)
    refine al_q (q_assign rfl) rfl rfl rfl ?_
    refine al_end (ah_last (by kernel_rfl) ?_)
    refine aq_then ?_
    refine ac_ret ?_
    refine ret1 Try.results3 rfl (fun w9 hs => ?_)
    exact ⟨rfl, hs.below⟩

theorem restL_ok {M : MachD} {S : StD} {heat : List Int} (h : (restL M S heat).2 = 0) : FitS M S ∧ heat.length = M.coils.length ∧ (∀ x ∈ heat, 0 ≤ x) ∧ (∀ j, j < M.coils.length → ¬ restB M S heat j) ∧ (restL M S heat).1 = maxTo (restF M S heat) M.coils.length := by
  unfold restL at h ⊢
  split at h
  · cases h
  · rename_i h1
    split at h
    · cases h
    · rename_i h2
      split at h
      · cases h
      · rename_i h3
        have h1' := Classical.not_not.1 h1
        rw [if_neg h1, if_neg h2, if_neg h3]
        exact ⟨fitS_iff.1 h1'.1, h1'.2, not_neg (by simpa using h2), fun j hj hb => h3 ⟨j, List.mem_range.2 hj, hb⟩, rfl⟩

set_option maxRecDepth 100000 in
theorem cool_any (R : MachR) (M : MachD) (RS : StR) (S : StD) (A : Option Addr) (len cap : Nat) (heat : List Int) (n : Int) (w : World) (hM : IsM w R M) (hS : IsS w RS S) (hI : IsT 1 intCells w A len heat) (hf : FitS M S) (hlen : heat.length = M.coils.length) (hnn : ∀ x ∈ heat, 0 ≤ x) (hh : ∀ y ∈ heat, y ≤ 9223372036854775807) (hnb : ∀ j, j < M.coils.length → ¬ restB M S heat j) (hn : 0 ≤ n) : Calls Try.prog 22 #[(.agg (machCells R M)), (RS.v S.tick), (.slice A len cap), (.int .i64 n)] w (Ret (.bool (decide (∀ j ∈ List.range R.la, restF M S heat j ≤ n))) w) := by
  have n1 := hM.coils.1
  have n4 := hI.1
  have n5 := (sound_of hf.cur.check).coils.1
  have n6 := hf.heat.1
  have n7 := hS.heat.1
  refine calls_ax (vs := [(.agg (machCells R M)), (RS.v S.tick), (.slice A len cap), (.int .i64 n)]) Try.func22 rfl rfl ?_
  refine ac_seq ?_
  refine ac_region ?_
  refine al_new (fun b => .pointer (some ⟨b, 0, none⟩)) (r_box rfl rfl) rfl rfl rfl ?_
  intro b1
  refine al_new (fun b => .pointer (some ⟨b, 0, none⟩)) (r_box rfl rfl) rfl rfl rfl ?_
  intro b2
  refine al_q (q_assign rfl) rfl rfl rfl ?_
  refine al_end ?_
  refine aq_then ?_
  refine ac_seq ?_
  refine ac_seq ?_
  refine ac_region ?_
  refine al_q (q_assign rfl) rfl rfl rfl ?_
  refine al_end ?_
  refine aq_then ?_
  refine ac_block ?_
  refine ac_loop (β := Nat) (fun x => x ≤ R.la ∧ ∀ j, j < x → restF M S heat j ≤ n) (fun x => [(2, (.slice A len cap)), (3, (.int .i64 n)), (4, (.pointer (some ⟨b1, 0, none⟩))), (5, (.pointer (some ⟨b2, 0, none⟩))), (8, (.bool false)), (9, (.int .i64 (x : Int)))]) (fun _ => _) (fun x => [(b2, _), (b1, _)]) (fun x => R.la - x) 0 ⟨by omega, fun j h => by omega⟩ ⟨rfl, rfl, rfl, rfl, rfl, rfl, trivial⟩ (fun w9 hs => hs) (fun x hF1 => ?_)
  refine ac_seq ?_
  refine ac_seq ?_
  refine ac_region ?_
  refine al_q (q_move rfl) rfl rfl rfl ?_
  refine al_q (q_fieldAddr 1 rfl Try.runUnderlying29 rfl Try.sizeOf22 (by decide) rfl) rfl rfl rfl ?_
  refine al_q (q_load (i := 1) rfl rfl rfl Try.isAgg22) rfl rfl rfl ?_
  refine al_q (q_lenS rfl Try.runUnderlying22) rfl rfl rfl ?_
  refine al_q (q_lss rfl rfl) rfl rfl rfl ?_
  refine al_end ?_
  refine aq_then ?_
  refine ac_cond rfl (fun h1 => ?_) (fun h1 => ?_)
  · have hxl : x < R.la := by have := of_decide_eq_true h1; omega
    obtain ⟨b11, o11, hA1, hlt1, hget1⟩ := hM.coils.2 (by omega)
    have hx1 := cA_get (M := M) (k := x) (by omega)
    obtain ⟨b21, o21, hA2, hlt2, hget2⟩ := hS.heat.2 (by omega)
    have hx2 := iA_get (l := S.heat) (k := x) (by have := hf.heat.1; omega)
    obtain ⟨b31, o31, hA3, hlt3, hget3⟩ := hI.2 (by omega)
    have hx3 := iA_get (l := heat) (k := x) (by omega)
    have q1 := (cA_ok hf.cur.check (k := x) (by omega)).cool
    have q2 := hf.heat.2 _ (List.mem_of_getElem? hx2)
    have q3 := hh _ (List.mem_of_getElem? hx3)
    have q4 := hnn _ (List.mem_of_getElem? hx3)
    refine ac_skip ?_
    refine aq_then ?_
    refine ac_seq ?_
    refine ac_block ?_
    refine ac_seq ?_
    refine ac_draw 10 (by kernel_rfl) (by kernel_rfl) ?_
    refine ah_take 0 (fun w9 hs => hs) rfl rfl rfl (by kernel_rfl) (by kernel_rfl) (by kernel_rfl) (fun _ _ _ h => h) rfl (q_fieldAddr 4 rfl Try.runUnderlying35 rfl Try.sizeOf30 (by decide) rfl) ?_
    refine ah_take 1 (fun w9 hs => hs) rfl rfl rfl (by kernel_rfl) (by kernel_rfl) (by kernel_rfl) (fun _ _ _ h => h) rfl (q_load (i := 0) rfl rfl rfl Try.isAgg30) ?_
    refine ah_take 2 (fun w9 hs => hs) rfl rfl rfl (by kernel_rfl) (by kernel_rfl) (by kernel_rfl) (fun _ _ _ h => h) rfl (q_move rfl) ?_
    refine ah_take 3 (fun w9 hs => hs) rfl rfl rfl (by kernel_rfl) (by kernel_rfl) (by kernel_rfl) (fun _ _ _ h => h) rfl (q_indexAddrA (i := x) (o21 + x * 1 + 0) hA2 rfl rfl rfl (by omega) Try.runUnderlying30 Try.sizeOf3 rfl) ?_
    refine ah_take 4 (fun w9 hs => hs) rfl rfl rfl (by kernel_rfl) (by kernel_rfl) (by kernel_rfl) (fun _ _ _ h => h) rfl (q_loadX rfl Try.isAgg3 (fun w9 hs => (hs.below.cell (p := ⟨_, _, none⟩) hlt2).trans ((hget2 x _ hx2) 0 _ rfl))) ?_
    refine ah_take 5 (fun w9 hs => hs) rfl rfl rfl (by kernel_rfl) (by kernel_rfl) (by kernel_rfl) (fun _ _ _ h => h) rfl (q_move rfl) ?_
    refine ah_take 6 (fun w9 hs => hs) rfl rfl rfl (by kernel_rfl) (by kernel_rfl) (by kernel_rfl) (fun _ _ _ h => h) rfl (q_move rfl) ?_
    refine ah_take 7 (fun w9 hs => hs) rfl rfl rfl (by kernel_rfl) (by kernel_rfl) (by kernel_rfl) (fun _ _ _ h => h) rfl (q_indexAddrA (i := x) (o31 + x * 1 + 0) hA3 rfl rfl rfl (by omega) Try.runUnderlying30 Try.sizeOf3 rfl) ?_
    refine ah_take 8 (fun w9 hs => hs) rfl rfl rfl (by kernel_rfl) (by kernel_rfl) (by kernel_rfl) (fun _ _ _ h => h) rfl (q_loadX rfl Try.isAgg3 (fun w9 hs => (hs.below.cell (p := ⟨_, _, none⟩) hlt3).trans ((hget3 x _ hx3) 0 _ rfl))) ?_
    refine ah_take 9 (fun w9 hs => hs) rfl rfl rfl (by kernel_rfl) (by kernel_rfl) (by kernel_rfl) (fun _ _ _ h => h) rfl (q_sub rfl rfl (by omega)) ?_
    refine ah_one 10 rfl (by kernel_rfl) (fun hok1 hcl1 => ?_)
    refine al_q (q_assign rfl) rfl rfl rfl ?_
    refine al_end (ah_last (by kernel_rfl) ?_)
    refine aq_then ?_
    refine ac_seq ?_
    refine ac_draw 30 (by kernel_rfl) (by kernel_rfl) ?_
    refine ah_take 0 (fun w9 hs => hs) rfl rfl rfl (by kernel_rfl) (by kernel_rfl) (by kernel_rfl) (fun _ _ _ h => h) rfl (q_move rfl) ?_
    refine ah_take 1 (fun w9 hs => hs) rfl rfl rfl (by kernel_rfl) (by kernel_rfl) (by kernel_rfl) (fun _ _ _ h => h) rfl (q_gtr rfl rfl) ?_
    refine ah_take 2 (fun w9 hs => hs) rfl rfl rfl (by kernel_rfl) (by kernel_rfl) (by kernel_rfl) (fun _ _ _ h => h) rfl (q_move rfl) ?_
    refine ah_split 30 rfl (fun hb1 => ?_) (fun hb1 => ?_)
    · have g30 := of_decide_eq_true hb1
      refine ah_take 3 (fun w9 hs => hs) rfl rfl rfl (by kernel_rfl) (by kernel_rfl) (by kernel_rfl) (fun _ _ _ h => h) rfl (q_fieldAddr 1 rfl Try.runUnderlying29 rfl Try.sizeOf22 (by decide) rfl) ?_
      refine ah_take 4 (fun w9 hs => hs) rfl rfl rfl (by kernel_rfl) (by kernel_rfl) (by kernel_rfl) (fun _ _ _ h => h) rfl (q_load (i := 1) rfl rfl rfl Try.isAgg22) ?_
      refine ah_take 5 (fun w9 hs => hs) rfl rfl rfl (by kernel_rfl) (by kernel_rfl) (by kernel_rfl) (fun _ _ _ h => h) rfl (q_move rfl) ?_
      refine ah_take 6 (fun w9 hs => hs) rfl rfl rfl (by kernel_rfl) (by kernel_rfl) (by kernel_rfl) (fun _ _ _ h => h) rfl (q_indexAddrA (i := x) (o11 + x * 8 + 0) hA1 rfl rfl rfl (by omega) Try.runUnderlying22 Try.sizeOf46 rfl) ?_
      refine ah_take 7 (fun w9 hs => hs) rfl rfl rfl (by kernel_rfl) (by kernel_rfl) (by kernel_rfl) (fun _ _ _ h => h) rfl (q_fieldAddr (o11 + x * 8 + 7) rfl Try.runUnderlying46 rfl Try.sizeOf3 (by decide) rfl) ?_
      refine ah_take 8 (fun w9 hs => hs) rfl rfl rfl (by kernel_rfl) (by kernel_rfl) (by kernel_rfl) (fun _ _ _ h => h) rfl (q_loadX rfl Try.isAgg3 (fun w9 hs => (hs.below.cell (p := ⟨_, _, none⟩) hlt1).trans ((hget1 x _ hx1) 7 _ rfl))) ?_
      refine ah_take 9 (fun w9 hs => hs) rfl rfl rfl (by kernel_rfl) (by kernel_rfl) (by kernel_rfl) (fun _ _ _ h => h) rfl (q_eql rfl rfl) ?_
      refine ah_take 10 (fun w9 hs => hs) rfl rfl rfl (by kernel_rfl) (by kernel_rfl) (by kernel_rfl) (fun _ _ _ h => h) rfl (q_move rfl) ?_
      refine ah_split 38 rfl (fun hb2 => ?_) (fun hb2 => ?_)
      · exfalso; exact hnb x (by omega) ⟨by omega, by simpa using hb2⟩
      · have g38 : (cA M x).cool ≠ 0 := by simpa using hb2
        have hfx : restF M S heat x = (iA S.heat x - iA heat x + (cA M x).cool - 1).tdiv (cA M x).cool := if_neg (by omega)
        refine ah_take 11 (fun w9 hs => hs) rfl rfl rfl (by kernel_rfl) (by kernel_rfl) (by kernel_rfl) (fun _ _ _ h => h) rfl (q_move rfl) ?_
        refine ah_take 12 (fun w9 hs => hs) rfl rfl rfl (by kernel_rfl) (by kernel_rfl) (by kernel_rfl) (fun _ _ _ h => h) rfl (q_fieldAddr 1 rfl Try.runUnderlying29 rfl Try.sizeOf22 (by decide) rfl) ?_
        refine ah_take 13 (fun w9 hs => hs) rfl rfl rfl (by kernel_rfl) (by kernel_rfl) (by kernel_rfl) (fun _ _ _ h => h) rfl (q_load (i := 1) rfl rfl rfl Try.isAgg22) ?_
        refine ah_take 14 (fun w9 hs => hs) rfl rfl rfl (by kernel_rfl) (by kernel_rfl) (by kernel_rfl) (fun _ _ _ h => h) rfl (q_move rfl) ?_
        refine ah_take 15 (fun w9 hs => hs) rfl rfl rfl (by kernel_rfl) (by kernel_rfl) (by kernel_rfl) (fun _ _ _ h => h) rfl (q_indexAddrA (i := x) (o11 + x * 8 + 0) hA1 rfl rfl rfl (by omega) Try.runUnderlying22 Try.sizeOf46 rfl) ?_
        refine ah_take 16 (fun w9 hs => hs) rfl rfl rfl (by kernel_rfl) (by kernel_rfl) (by kernel_rfl) (fun _ _ _ h => h) rfl (q_fieldAddr (o11 + x * 8 + 7) rfl Try.runUnderlying46 rfl Try.sizeOf3 (by decide) rfl) ?_
        refine ah_take 17 (fun w9 hs => hs) rfl rfl rfl (by kernel_rfl) (by kernel_rfl) (by kernel_rfl) (fun _ _ _ h => h) rfl (q_loadX rfl Try.isAgg3 (fun w9 hs => (hs.below.cell (p := ⟨_, _, none⟩) hlt1).trans ((hget1 x _ hx1) 7 _ rfl))) ?_
        refine ah_take 18 (fun w9 hs => hs) rfl rfl rfl (by kernel_rfl) (by kernel_rfl) (by kernel_rfl) (fun _ _ _ h => h) rfl (q_add rfl rfl (by omega)) ?_
        refine ah_take 19 (fun w9 hs => hs) rfl rfl rfl (by kernel_rfl) (by kernel_rfl) (by kernel_rfl) (fun _ _ _ h => h) rfl (q_sub rfl rfl (by omega)) ?_
        refine ah_take 20 (fun w9 hs => hs) rfl rfl rfl (by kernel_rfl) (by kernel_rfl) (by kernel_rfl) (fun _ _ _ h => h) rfl (q_fieldAddr 1 rfl Try.runUnderlying29 rfl Try.sizeOf22 (by decide) rfl) ?_
        refine ah_take 21 (fun w9 hs => hs) rfl rfl rfl (by kernel_rfl) (by kernel_rfl) (by kernel_rfl) (fun _ _ _ h => h) rfl (q_load (i := 1) rfl rfl rfl Try.isAgg22) ?_
        refine ah_take 22 (fun w9 hs => hs) rfl rfl rfl (by kernel_rfl) (by kernel_rfl) (by kernel_rfl) (fun _ _ _ h => h) rfl (q_move rfl) ?_
        refine ah_take 23 (fun w9 hs => hs) rfl rfl rfl (by kernel_rfl) (by kernel_rfl) (by kernel_rfl) (fun _ _ _ h => h) rfl (q_indexAddrA (i := x) (o11 + x * 8 + 0) hA1 rfl rfl rfl (by omega) Try.runUnderlying22 Try.sizeOf46 rfl) ?_
        refine ah_take 24 (fun w9 hs => hs) rfl rfl rfl (by kernel_rfl) (by kernel_rfl) (by kernel_rfl) (fun _ _ _ h => h) rfl (q_fieldAddr (o11 + x * 8 + 7) rfl Try.runUnderlying46 rfl Try.sizeOf3 (by decide) rfl) ?_
        refine ah_take 25 (fun w9 hs => hs) rfl rfl rfl (by kernel_rfl) (by kernel_rfl) (by kernel_rfl) (fun _ _ _ h => h) rfl (q_loadX rfl Try.isAgg3 (fun w9 hs => (hs.below.cell (p := ⟨_, _, none⟩) hlt1).trans ((hget1 x _ hx1) 7 _ rfl))) ?_
        refine ah_take 26 (fun w9 hs => hs) rfl rfl rfl (by kernel_rfl) (by kernel_rfl) (by kernel_rfl) (fun _ _ _ h => h) rfl (q_quo rfl rfl (by omega)) ?_
        refine ah_take 27 (fun w9 hs => hs) rfl rfl rfl (by kernel_rfl) (by kernel_rfl) (by kernel_rfl) (fun _ _ _ h => h) rfl (q_move rfl) ?_
        refine ah_take 28 (fun w9 hs => hs) rfl rfl rfl (by kernel_rfl) (by kernel_rfl) (by kernel_rfl) (fun _ _ _ h => h) rfl (q_gtr rfl rfl) ?_
        refine ah_take 29 (fun w9 hs => hs) rfl rfl rfl (by kernel_rfl) (by kernel_rfl) (by kernel_rfl) (fun _ _ _ h => h) rfl (q_pickF rfl rfl) ?_
        refine ah_take 30 (fun w9 hs => hs) rfl rfl rfl (by kernel_rfl) (by kernel_rfl) (by kernel_rfl) (fun _ _ _ h => h) rfl (q_pickT rfl rfl) ?_
        refine ah_done (by kernel_rfl) ?_
        refine aq_then ?_
        refine ac_cond rfl (fun h2 => ?_) (fun h2 => ?_)
        · have hbig : ¬ ∀ j ∈ List.range R.la, restF M S heat j ≤ n := fun h => by have h1 := h x (List.mem_range.2 hxl); rw [hfx] at h1; have := of_decide_eq_true h2; omega
          refine ac_seq ?_
          refine ac_region ?_
          refine al_q (q_assign rfl) rfl rfl rfl ?_
          refine al_end ?_
          refine aq_then ?_
          refine ac_ret ?_
          refine aq_inR ?_
          refine aq_thenR ?_
          refine aq_thenR ?_
          refine aq_inR ?_
          refine aq_thenR ?_
          refine ret1 Try.results22 rfl (fun w9 hs => ?_)
          first | (rw [decide_eq_false hbig]; exact ⟨rfl, hs.below⟩) | (rw [decide_eq_true (fun j hj => hF1.2 j (by have := List.mem_range.1 hj; omega))]; exact ⟨rfl, hs.below⟩)
        · have hnew : restF M S heat x ≤ n := by rw [hfx]; have := of_decide_eq_false h2; omega
          refine ac_skip ?_
          refine aq_inN ?_
          refine aq_then ?_
          refine ac_region ?_
          refine al_q (q_move rfl) rfl rfl rfl ?_
          refine al_q (q_add rfl rfl (by omega)) rfl rfl rfl ?_
          refine al_q (q_assign rfl) rfl rfl rfl ?_
          refine al_end ?_
          refine aq_then ?_
          skip
          refine aq_round (x + 1) (by omega) ⟨by omega, upTo hF1.2 hnew⟩ ⟨rfl, rfl, rfl, rfl, rfl, rfl, trivial⟩ (fun w9 hs => hs)
    · have g30 := of_decide_eq_false hb1
      have hnew : restF M S heat x ≤ n := by rw [restF, if_pos (by omega)]; exact hn
      refine ah_skip 3 (fun w9 hs => hs) rfl rfl rfl (by kernel_rfl) (by kernel_rfl) (by kernel_rfl) (fun _ _ _ h => h) rfl ?_
      refine ah_skip 4 (fun w9 hs => hs) rfl rfl rfl (by kernel_rfl) (by kernel_rfl) (by kernel_rfl) (fun _ _ _ h => h) rfl ?_
      refine ah_skip 5 (fun w9 hs => hs) rfl rfl rfl (by kernel_rfl) (by kernel_rfl) (by kernel_rfl) (fun _ _ _ h => h) rfl ?_
      refine ah_skip 6 (fun w9 hs => hs) rfl rfl rfl (by kernel_rfl) (by kernel_rfl) (by kernel_rfl) (fun _ _ _ h => h) rfl ?_
      refine ah_skip 7 (fun w9 hs => hs) rfl rfl rfl (by kernel_rfl) (by kernel_rfl) (by kernel_rfl) (fun _ _ _ h => h) rfl ?_
      refine ah_skip 8 (fun w9 hs => hs) rfl rfl rfl (by kernel_rfl) (by kernel_rfl) (by kernel_rfl) (fun _ _ _ h => h) rfl ?_
      refine ah_skip 9 (fun w9 hs => hs) rfl rfl rfl (by kernel_rfl) (by kernel_rfl) (by kernel_rfl) (fun _ _ _ h => h) rfl ?_
      refine ah_skip 10 (fun w9 hs => hs) rfl rfl rfl (by kernel_rfl) (by kernel_rfl) (by kernel_rfl) (fun _ _ _ h => h) rfl ?_
      refine ah_skip 11 (fun w9 hs => hs) rfl rfl rfl (by kernel_rfl) (by kernel_rfl) (by kernel_rfl) (fun _ _ _ h => h) rfl ?_
      refine ah_skip 12 (fun w9 hs => hs) rfl rfl rfl (by kernel_rfl) (by kernel_rfl) (by kernel_rfl) (fun _ _ _ h => h) rfl ?_
      refine ah_skip 13 (fun w9 hs => hs) rfl rfl rfl (by kernel_rfl) (by kernel_rfl) (by kernel_rfl) (fun _ _ _ h => h) rfl ?_
      refine ah_skip 14 (fun w9 hs => hs) rfl rfl rfl (by kernel_rfl) (by kernel_rfl) (by kernel_rfl) (fun _ _ _ h => h) rfl ?_
      refine ah_skip 15 (fun w9 hs => hs) rfl rfl rfl (by kernel_rfl) (by kernel_rfl) (by kernel_rfl) (fun _ _ _ h => h) rfl ?_
      refine ah_skip 16 (fun w9 hs => hs) rfl rfl rfl (by kernel_rfl) (by kernel_rfl) (by kernel_rfl) (fun _ _ _ h => h) rfl ?_
      refine ah_skip 17 (fun w9 hs => hs) rfl rfl rfl (by kernel_rfl) (by kernel_rfl) (by kernel_rfl) (fun _ _ _ h => h) rfl ?_
      refine ah_skip 18 (fun w9 hs => hs) rfl rfl rfl (by kernel_rfl) (by kernel_rfl) (by kernel_rfl) (fun _ _ _ h => h) rfl ?_
      refine ah_skip 19 (fun w9 hs => hs) rfl rfl rfl (by kernel_rfl) (by kernel_rfl) (by kernel_rfl) (fun _ _ _ h => h) rfl ?_
      refine ah_skip 20 (fun w9 hs => hs) rfl rfl rfl (by kernel_rfl) (by kernel_rfl) (by kernel_rfl) (fun _ _ _ h => h) rfl ?_
      refine ah_skip 21 (fun w9 hs => hs) rfl rfl rfl (by kernel_rfl) (by kernel_rfl) (by kernel_rfl) (fun _ _ _ h => h) rfl ?_
      refine ah_skip 22 (fun w9 hs => hs) rfl rfl rfl (by kernel_rfl) (by kernel_rfl) (by kernel_rfl) (fun _ _ _ h => h) rfl ?_
      refine ah_skip 23 (fun w9 hs => hs) rfl rfl rfl (by kernel_rfl) (by kernel_rfl) (by kernel_rfl) (fun _ _ _ h => h) rfl ?_
      refine ah_skip 24 (fun w9 hs => hs) rfl rfl rfl (by kernel_rfl) (by kernel_rfl) (by kernel_rfl) (fun _ _ _ h => h) rfl ?_
      refine ah_skip 25 (fun w9 hs => hs) rfl rfl rfl (by kernel_rfl) (by kernel_rfl) (by kernel_rfl) (fun _ _ _ h => h) rfl ?_
      refine ah_skip 26 (fun w9 hs => hs) rfl rfl rfl (by kernel_rfl) (by kernel_rfl) (by kernel_rfl) (fun _ _ _ h => h) rfl ?_
      refine ah_skip 27 (fun w9 hs => hs) rfl rfl rfl (by kernel_rfl) (by kernel_rfl) (by kernel_rfl) (fun _ _ _ h => h) rfl ?_
      refine ah_skip 28 (fun w9 hs => hs) rfl rfl rfl (by kernel_rfl) (by kernel_rfl) (by kernel_rfl) (fun _ _ _ h => h) rfl ?_
      refine ah_skip 29 (fun w9 hs => hs) rfl rfl rfl (by kernel_rfl) (by kernel_rfl) (by kernel_rfl) (fun _ _ _ h => h) rfl ?_
      refine ah_take 30 (fun w9 hs => hs) rfl rfl rfl (by kernel_rfl) (by kernel_rfl) (by kernel_rfl) (fun _ _ _ h => h) rfl (q_pickF rfl rfl) ?_
      refine ah_done (by kernel_rfl) ?_
      refine aq_then ?_
      refine ac_condF rfl ?_
      refine ac_skip ?_
      refine aq_inN ?_
      refine aq_then ?_
      refine ac_region ?_
      refine al_q (q_move rfl) rfl rfl rfl ?_
      refine al_q (q_add rfl rfl (by omega)) rfl rfl rfl ?_
      refine al_q (q_assign rfl) rfl rfl rfl ?_
      refine al_end ?_
      refine aq_then ?_
      skip
      refine aq_round (x + 1) (by omega) ⟨by omega, upTo hF1.2 hnew⟩ ⟨rfl, rfl, rfl, rfl, rfl, rfl, trivial⟩ (fun w9 hs => hs)
  · have hxe : x = R.la := by have := of_decide_eq_false h1; omega
    refine ac_exit ?_
    refine aq_thenE ?_
    refine aq_thenE ?_
    refine aq_hit ?_
    refine aq_then ?_
    refine ac_seq ?_
    refine ac_region ?_
    refine al_q (q_assign rfl) rfl rfl rfl ?_
    refine al_end ?_
    refine aq_then ?_
    refine ac_ret ?_
    refine ret1 Try.results22 rfl (fun w9 hs => ?_)
    first | (rw [decide_eq_false hbig]; exact ⟨rfl, hs.below⟩) | (rw [decide_eq_true (fun j hj => hF1.2 j (by have := List.mem_range.1 hj; omega))]; exact ⟨rfl, hs.below⟩)

theorem cool_yes (R : MachR) (M : MachD) (RS : StR) (S : StD) (A : Option Addr) (len cap : Nat) (heat : List Int) (w : World) (hM : IsM w R M) (hS : IsS w RS S) (hI : IsT 1 intCells w A len heat) (hh : ∀ y ∈ heat, y ≤ 9223372036854775807) (h : (restL M S heat).2 = 0) : Calls Try.prog 22 #[.agg (machCells R M), RS.v S.tick, .slice A len cap, .int .i64 (restL M S heat).1] w (Ret (.bool true) w) := by
  obtain ⟨hf, h1, h2, h3, h4⟩ := restL_ok h
  have hb := maxTo_bd (f := restF M S heat) (B := 1000002000000000) (by omega) M.coils.length (fun k hk => (restF_bd hf h2 h1 hk (h3 k hk)).2)
  have := cool_any R M RS S A len cap heat (restL M S heat).1 w hM hS hI hf h1 h2 hh h3 (by rw [h4]; exact hb.1)
  rwa [decide_eq_true (fun j hj => by rw [h4]; exact maxTo_ge _ (by have := List.mem_range.1 hj; have := hM.coils.1; omega))] at this
theorem cool_no (R : MachR) (M : MachD) (RS : StR) (S : StD) (A : Option Addr) (len cap : Nat) (heat : List Int) (w : World) (hM : IsM w R M) (hS : IsS w RS S) (hI : IsT 1 intCells w A len heat) (hh : ∀ y ∈ heat, y ≤ 9223372036854775807) (h : (restL M S heat).2 = 0) (h0 : (restL M S heat).1 ≠ 0) : Calls Try.prog 22 #[.agg (machCells R M), RS.v S.tick, .slice A len cap, .int .i64 ((restL M S heat).1 - 1)] w (Ret (.bool false) w) := by
  obtain ⟨hf, h1, h2, h3, h4⟩ := restL_ok h
  have hb := maxTo_bd (f := restF M S heat) (B := 1000002000000000) (by omega) M.coils.length (fun k hk => (restF_bd hf h2 h1 hk (h3 k hk)).2)
  have := cool_any R M RS S A len cap heat ((restL M S heat).1 - 1) w hM hS hI hf h1 h2 hh h3 (by omega)
  rwa [decide_eq_false (fun g => by
    rcases maxTo_at (f := restF M S heat) M.coils.length with e | ⟨k, hk, e⟩
    · omega
    · have := g k (List.mem_range.2 (by have := hM.coils.1; omega)); omega)] at this
theorem restL_bd {M : MachD} {S : StD} {heat : List Int} (h : (restL M S heat).2 = 0) : 0 ≤ (restL M S heat).1 ∧ (restL M S heat).1 ≤ 1000002000000000 := by
  obtain ⟨hf, h1, h2, h3, h4⟩ := restL_ok h
  rw [h4]
  exact maxTo_bd (f := restF M S heat) (B := 1000002000000000) (by omega) M.coils.length (fun k hk => (restF_bd hf h2 h1 hk (h3 k hk)).2)

set_option maxRecDepth 100000 in
theorem rests_walk (R : MachR) (M : MachD) (RS : StR) (S : StD) (A : Option Addr) (len cap : Nat) (heat : List Int) (w : World) (hM0 : R.la ≤ 1000000000000000 → R.lb ≤ 1000000000000000 → R.lc ≤ 1000000000000000 → R.ld ≤ 1000000000000000 → IsM w R M) (hS0 : RS.Q.la ≤ 1000000000000000 → RS.Q.lb ≤ 1000000000000000 → RS.Q.lc ≤ 1000000000000000 → RS.lh ≤ 1000000000000000 → IsS w RS S) (hI : IsT 1 intCells w A len heat) (hh : ∀ y ∈ heat, y ≤ 9223372036854775807) : Calls Try.prog 6 #[(.agg (machCells R M)), (RS.v S.tick), (.slice A len cap)] w (Ret (.bool true) w) := by
  refine calls_ax (vs := [(.agg (machCells R M)), (RS.v S.tick), (.slice A len cap)]) Try.func6 rfl rfl ?_
  refine ac_seq ?_
  refine ac_region ?_
  refine al_new (fun b => .pointer (some ⟨b, 0, none⟩)) (r_box rfl rfl) rfl rfl rfl ?_
  intro b1
  refine al_new (fun b => .pointer (some ⟨b, 0, none⟩)) (r_box rfl rfl) rfl rfl rfl ?_
  intro b2
  refine al_q (q_assign rfl) rfl rfl rfl ?_
  refine al_end ?_
  refine aq_then ?_
  refine ac_seq ?_
  refine ac_seq ?_
  refine ac_region ?_
  refine al_q (q_loadAll (i := 1) rfl rfl Try.isAgg29 Try.sizeOf29 rfl) rfl rfl rfl ?_
  refine al_q (q_loadAll (i := 0) rfl rfl Try.isAgg35 Try.sizeOf35 rfl) rfl rfl rfl ?_
  refine al_call Try.call9 (.cons rfl (.cons rfl .nil)) rfl rfl (fun w1 hs1 => ?_)
  refine (brief3_any R M RS S _).mono ?_
  rintro e u1 ⟨bb, rfl, hbb, hb_1⟩
  refine ⟨_, rfl, hb_1, ?_⟩
  clear hs1
  refine al_q (q_not rfl) rfl rfl rfl ?_
  refine al_q (q_move rfl) rfl rfl rfl ?_
  refine aq_split 15 rfl (fun hb1 => ?_) (fun hb1 => ?_)
  · skip
    refine al_skip rfl rfl rfl ?_
    refine al_skip rfl rfl rfl ?_
    refine al_skip rfl rfl rfl ?_
    refine al_q (q_pickT rfl rfl) rfl rfl rfl ?_
    refine al_end ?_
    refine aq_then ?_
    refine ac_condT rfl ?_
    refine ac_seq ?_
    refine ac_region ?_
    refine al_call Try.call10 .nil rfl rfl (fun w2 hs2 => ?_)
    refine (awake3_any _).mono ?_
    rintro e u2 ⟨rfl, hb_2⟩
    refine ⟨_, rfl, hb_2, ?_⟩
    clear hs2
    refine al_q (q_assign rfl) rfl rfl rfl ?_
    refine al_end ?_
    refine aq_then ?_
    refine ac_ret ?_
    refine aq_thenR ?_
    refine ret1 Try.results6 rfl (fun w9 hs => ?_)
    exact ⟨rfl, hs.below⟩
  · have hB := hbb (by simpa using hb1)
    obtain ⟨⟨m1, m2, m3, m4⟩, m5, m6, m7, m8⟩ := hB
    have hM := hM0 (by omega) (by omega) (by omega) (by omega)
    have hS := hS0 (by omega) (by omega) (by omega) (by omega)
    refine al_q (q_move rfl) rfl rfl rfl ?_
    refine al_q (q_lenS rfl Try.runUnderlying30) rfl rfl rfl ?_
    refine al_q (q_gtr rfl rfl) rfl rfl rfl ?_
    refine al_q (q_pickF rfl rfl) rfl rfl rfl ?_
    refine al_end ?_
    refine aq_then ?_
    refine ac_cond rfl (fun h1 => ?_) (fun h1 => ?_)
    · skip
      refine ac_seq ?_
      refine ac_region ?_
      refine al_call Try.call10 .nil rfl rfl (fun w3 hs3 => ?_)
      refine (awake3_any _).mono ?_
      rintro e u3 ⟨rfl, hb_3⟩
      refine ⟨_, rfl, hb_3, ?_⟩
      clear hs3
      refine al_q (q_assign rfl) rfl rfl rfl ?_
      refine al_end ?_
      refine aq_then ?_
      refine ac_ret ?_
      refine aq_thenR ?_
      refine ret1 Try.results6 rfl (fun w9 hs => ?_)
      exact ⟨rfl, hs.below⟩
    · have hl : len ≤ 1000000000000000 := by have := of_decide_eq_false h1; omega
      refine ac_skip ?_
      refine aq_then ?_
      refine ac_seq ?_
      refine ac_region ?_
      refine al_q (q_loadAll (i := 1) rfl rfl Try.isAgg29 Try.sizeOf29 rfl) rfl rfl rfl ?_
      refine al_q (q_loadAll (i := 0) rfl rfl Try.isAgg35 Try.sizeOf35 rfl) rfl rfl rfl ?_
      refine al_q (q_move rfl) rfl rfl rfl ?_
      refine al_call Try.call20 (.cons rfl (.cons rfl (.cons rfl .nil))) rfl rfl (fun w4 hs4 => ?_)
      refine (crest_any R M RS S A len cap heat _ (hM.below hs4.below) (hS.below hs4.below) (hI.below hs4.below) hl).mono ?_
      rintro e u4 ⟨rfl, hb_4⟩
      refine ⟨_, rfl, hb_4, ?_⟩
      clear hs4
      refine al_q (q_move rfl) rfl rfl rfl ?_
      refine al_q (q_extract rfl rfl) rfl rfl rfl ?_
      refine al_q (q_extract rfl rfl) rfl rfl rfl ?_
      refine al_q (q_assign rfl) rfl rfl rfl ?_
      refine al_q (q_assign rfl) rfl rfl rfl ?_
      refine al_end ?_
      refine aq_then ?_
      refine ac_seq ?_
      refine ac_region ?_
      refine al_q (q_loadAll (i := 1) rfl rfl Try.isAgg29 Try.sizeOf29 rfl) rfl rfl rfl ?_
      refine al_q (q_loadAll (i := 0) rfl rfl Try.isAgg35 Try.sizeOf35 rfl) rfl rfl rfl ?_
      refine al_q (q_move rfl) rfl rfl rfl ?_
      refine al_call Try.call21 (.cons rfl (.cons rfl (.cons rfl .nil))) rfl rfl (fun w5 hs5 => ?_)
      refine (rrest_any R M RS S A len cap heat _ (hM.below hs5.below) (hS.below hs5.below) (hI.below hs5.below) hl hh).mono ?_
      rintro e u5 ⟨rfl, hb_5⟩
      refine ⟨_, rfl, hb_5, ?_⟩
      clear hs5
      refine al_q (q_move rfl) rfl rfl rfl ?_
      refine al_q (q_extract rfl rfl) rfl rfl rfl ?_
      refine al_q (q_extract rfl rfl) rfl rfl rfl ?_
      refine al_q (q_assign rfl) rfl rfl rfl ?_
      refine al_q (q_assign rfl) rfl rfl rfl ?_
      refine al_end ?_
      refine aq_then ?_
      refine ac_seq ?_
      refine ac_seq ?_
      refine ac_region ?_
      refine al_q (q_move rfl) rfl rfl rfl ?_
      refine al_q (q_move rfl) rfl rfl rfl ?_
      refine al_q (q_same (v' := .bool false) (q_neq rfl rfl) (by simp)) rfl rfl rfl ?_
      refine al_q (q_move rfl) rfl rfl rfl ?_
      refine al_q (q_move rfl) rfl rfl rfl ?_
      refine al_q (q_move rfl) rfl rfl rfl ?_
      refine al_q (q_same (v' := .bool false) (q_neq rfl rfl) (by simp)) rfl rfl rfl ?_
      refine al_q (q_pickF rfl rfl) rfl rfl rfl ?_
      refine al_end ?_
      refine aq_then ?_
      refine ac_condF rfl ?_
      refine ac_skip ?_
      refine aq_then ?_
      refine ac_seq ?_
      refine ac_seq ?_
      refine ac_region ?_
      refine al_q (q_move rfl) rfl rfl rfl ?_
      refine al_q (q_neq rfl rfl) rfl rfl rfl ?_
      refine al_end ?_
      refine aq_then ?_
      refine ac_cond rfl (fun h2 => ?_) (fun h2 => ?_)
      · skip
        refine ac_seq ?_
        refine ac_region ?_
        refine al_call Try.call10 .nil rfl rfl (fun w6 hs6 => ?_)
        refine (awake3_any _).mono ?_
        rintro e u6 ⟨rfl, hb_6⟩
        refine ⟨_, rfl, hb_6, ?_⟩
        clear hs6
        refine al_q (q_assign rfl) rfl rfl rfl ?_
        refine al_end ?_
        refine aq_then ?_
        refine ac_ret ?_
        refine aq_thenR ?_
        refine ret1 Try.results6 rfl (fun w9 hs => ?_)
        exact ⟨rfl, hs.below⟩
      · have hE : (restL M S heat).2 = 0 := by simpa using h2
        have hnb := restL_bd hE
        refine ac_skip ?_
        refine aq_then ?_
        refine ac_seq ?_
        refine ac_region ?_
        refine al_q (q_loadAll (i := 1) rfl rfl Try.isAgg29 Try.sizeOf29 rfl) rfl rfl rfl ?_
        refine al_q (q_loadAll (i := 0) rfl rfl Try.isAgg35 Try.sizeOf35 rfl) rfl rfl rfl ?_
        refine al_q (q_move rfl) rfl rfl rfl ?_
        refine al_q (q_move rfl) rfl rfl rfl ?_
        refine al_call Try.call22 (.cons rfl (.cons rfl (.cons rfl (.cons rfl .nil)))) rfl rfl (fun w7 hs7 => ?_)
        refine (cool_yes R M RS S A len cap heat _ (hM.below hs7.below) (hS.below hs7.below) (hI.below hs7.below) hh hE).mono ?_
        rintro e u7 ⟨rfl, hb_7⟩
        refine ⟨_, rfl, hb_7, ?_⟩
        clear hs7
        refine al_q (q_move rfl) rfl rfl rfl ?_
        refine al_q (q_move rfl) rfl rfl rfl ?_
        refine al_q (q_eql rfl rfl) rfl rfl rfl ?_
        refine al_q (q_move rfl) rfl rfl rfl ?_
        refine aq_split 54 rfl (fun hb2 => ?_) (fun hb2 => ?_)
        · skip
          refine al_skip rfl rfl rfl ?_
          refine al_skip rfl rfl rfl ?_
          refine al_skip rfl rfl rfl ?_
          refine al_skip rfl rfl rfl ?_
          refine al_skip rfl rfl rfl ?_
          refine al_skip rfl rfl rfl ?_
          refine al_skip rfl rfl rfl ?_
          refine al_q (q_pickT rfl rfl) rfl rfl rfl ?_
          refine al_q (q_pickT rfl rfl) rfl rfl rfl ?_
          refine al_q (q_move rfl) rfl rfl rfl ?_
          refine al_call Try.call10 .nil rfl rfl (fun w8 hs8 => ?_)
          refine (awake3_any _).mono ?_
          rintro e u8 ⟨rfl, hb_8⟩
          refine ⟨_, rfl, hb_8, ?_⟩
          clear hs8
          refine al_q (q_pickT rfl rfl) rfl rfl rfl ?_
          refine al_q (q_assign rfl) rfl rfl rfl ?_
          refine al_end ?_
          refine aq_then ?_
          refine ac_ret ?_
          refine ret1 Try.results6 rfl (fun w9 hs => ?_)
          exact ⟨rfl, hs.below⟩
        · have hn0 : (restL M S heat).1 ≠ 0 := by simpa using hb2
          refine al_q (q_loadAll (i := 1) rfl rfl Try.isAgg29 Try.sizeOf29 rfl) rfl rfl rfl ?_
          refine al_q (q_loadAll (i := 0) rfl rfl Try.isAgg35 Try.sizeOf35 rfl) rfl rfl rfl ?_
          refine al_q (q_move rfl) rfl rfl rfl ?_
          refine al_q (q_move rfl) rfl rfl rfl ?_
          refine al_q (q_sub rfl rfl (by omega)) rfl rfl rfl ?_
          refine al_call Try.call22 (.cons rfl (.cons rfl (.cons rfl (.cons rfl .nil)))) rfl rfl (fun w9 hs9 => ?_)
          refine (cool_no R M RS S A len cap heat _ (hM.below hs9.below) (hS.below hs9.below) (hI.below hs9.below) hh hE hn0).mono ?_
          rintro e u9 ⟨rfl, hb_9⟩
          refine ⟨_, rfl, hb_9, ?_⟩
          clear hs9
          refine al_q (q_not rfl) rfl rfl rfl ?_
          refine al_q (q_pickF rfl rfl) rfl rfl rfl ?_
          refine al_q (q_pickT rfl rfl) rfl rfl rfl ?_
          refine al_q (q_move rfl) rfl rfl rfl ?_
          refine al_call Try.call10 .nil rfl rfl (fun w10 hs10 => ?_)
          refine (awake3_any _).mono ?_
          rintro e u10 ⟨rfl, hb_10⟩
          refine ⟨_, rfl, hb_10, ?_⟩
          clear hs10
          refine al_q (q_pickT rfl rfl) rfl rfl rfl ?_
          refine al_q (q_assign rfl) rfl rfl rfl ?_
          refine al_end ?_
          refine aq_then ?_
          refine aq_keepL [6] (.cons rfl .nil) ?_
          refine ac_ret ?_
          refine ret1 Try.results6 rfl (fun w9 hs => ?_)
          exact ⟨rfl, hs.below⟩

end Go.Proofs.Ytcjndnadibbcbaa
end
section
/- The frame of the laws over spans: how an argument that is a span or a Pair is opened and shut, over this seat's translation. -/
namespace Go.Proofs.Ytcjndnadibbcbaa
set_option linter.unusedVariables false
set_option linter.unusedSimpArgs false
set_option maxRecDepth 100000
open Go.ChangeShapes Go.WideShapes Go.ChangeAt Go.RowKit Go.Joins

theorem own : ownKnob Try.prog.godebug = none := by kernel_rfl

theorem cells_int : Try.prog.cellsOf 3 = 1 := by kernel_rfl

section
variable {H : Type} {enc : TypeId × Value → H}

end

end Go.Proofs.Ytcjndnadibbcbaa
end
section
/- The frame of the laws over pairs: how an argument that is a list of items of n cells is opened, over this seat's translation. -/
namespace Go.Proofs.Ytcjndnadibbcbaa
set_option linter.unusedVariables false
set_option linter.unusedSimpArgs false
set_option maxRecDepth 100000
open Go.ChangeShapes Go.WideShapes Go.ChangeAt Go.RowKit Go.Joins Go.Deep

section
variable {H : Type} {enc : TypeId × Value → H}

/-- A list that reads is a list of items, where each item that reads is one. -/
theorem open_isT {α : Type} {E : α → List Value} {n : Nat} (h0 : ∀ x, (E x).length = n) {t e : TypeId} {W : World} {b0 : Nat} {r : Reach} {v : Value} {d : DataW H} {p : List MemPlace}
    (ht : Try.prog.underlying t = some (.slice e)) (hc : Try.prog.cellsOf e = n) (hn : 0 < n)
    (dec : ∀ (fuel : Nat) (cs : List Value) (y : DataW H × List MemPlace), DataW.trod enc Try.prog W 0 (fun _ => true) true fuel e cs = some y → ∃ x : α, cs = E x)
    (hv : Value.okWide Try.prog W r b0 t v) (h : DataW.Trod enc Try.prog W 0 (fun _ => true) true t v d p) :
    ∃ (A : Option Addr) (len cap : Nat) (zs : List α), v = .slice A len cap ∧ IsT n E W A len zs ∧ len ≤ maxLen ∧ len ≤ cap ∧ cap ≤ maxLen := by
  obtain ⟨a, len, cap, rfl⟩ := okWide_slice ht hv
  obtain ⟨fuel, hf⟩ := h
  rcases open_slice ht hf with ⟨hcs, hx⟩ | ⟨a', len', cap', m, k, D, Pl, hcs, hb, hl, hm, hmm, hx, hi⟩
  · have hcs : [Value.slice a len cap] = [Value.slice none 0 0] := hcs
    injection hcs with hcs _
    injection hcs with e1 e2 e3
    subst e1 e2 e3
    exact ⟨_, _, _, [], rfl, IsT.nil _ _ _ _, Nat.zero_le _, Nat.zero_le _, Nat.zero_le _⟩
  · have hcs : [Value.slice a len cap] = [Value.slice (some a') len' cap'] := hcs
    injection hcs with hcs _
    injection hcs with e1 e2 e3
    subst e1 e2 e3
    simp only [if_true] at hmm
    subst hmm
    have each : ∀ i, i < len → ∃ x : α, ∀ j, j < n → W.cell? (a'.add (i * n + j)) = (E x)[j]? := fun i hil => by
      obtain ⟨cs', h1, h2⟩ := hi i (by omega)
      obtain ⟨x, rfl⟩ := dec _ _ _ h2
      rw [hc] at h1
      obtain ⟨_, _, hcell⟩ := World.cells?_some h1
      refine ⟨x, fun j hj => ?_⟩
      have := hcell j hj
      rwa [add_add] at this
    by_cases hz : len = 0
    · subst hz
      exact ⟨_, _, _, [], rfl, IsT.nil _ _ _ _, Nat.zero_le _, Nat.zero_le _, hm⟩
    · obtain ⟨x0, _⟩ := each 0 (by omega)
      haveI : Inhabited α := ⟨x0⟩
      obtain ⟨z, hz'⟩ := choose_lt each
      refine ⟨_, _, _, (List.range len).map z, rfl, ⟨by simp, fun _ => ?_⟩, Nat.le_trans hl hm, hl, hm⟩
      have c0 := hz' 0 (by omega) 0 hn
      obtain ⟨v0, hv0⟩ : ∃ v0, (E (z 0))[0]? = some v0 := ⟨_, List.getElem?_eq_getElem (by rw [h0]; exact hn)⟩
      rw [hv0] at c0
      have hlt := World.block_lt_of_cell? W _ c0
      have hsp := World.cell?_spot c0
      obtain ⟨b, off, spot⟩ := a'
      have hspot : spot = none := by simpa [Addr.add] using hsp
      subst hspot
      rw [block_add] at hlt
      refine ⟨b, off, rfl, hlt, fun j x hx i v hv => ?_⟩
      have hj : j < len := by
        have := (List.getElem?_eq_some_iff.1 hx).1
        simpa using this
      have hx' : x = z j := by
        rw [List.getElem?_map, List.getElem?_range hj] at hx
        simpa using hx.symm
      subst hx'
      have hin : i < n := by
        have := (List.getElem?_eq_some_iff.1 hv).1
        rwa [h0] at this
      have := hz' j hj i hin
      rw [add_plain, hv] at this
      rw [← this]
      congr 2
      omega

end

end Go.Proofs.Ytcjndnadibbcbaa
end
