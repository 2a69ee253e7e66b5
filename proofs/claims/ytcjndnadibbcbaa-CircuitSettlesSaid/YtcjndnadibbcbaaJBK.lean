import Derived.Test.YtcjndnadibbcbaaJBG
import Derived.Test.YtcjndnadibbcbaaRows
import Derived.KernelRfl
import Derived.Laws.StructEq
section
/- The law CircuitLimits, over this seat's translation (written by ax_ci15.py). -/
namespace Go.Proofs.Ytcjndnadibbcbaa
set_option linter.unusedVariables false
set_option linter.unusedSimpArgs false
open Go.RowKit

set_option maxRecDepth 100000 in
theorem limits_walk (R : MachR) (M : MachD) (RS : StR) (S : StD) (A1 A2 : Option Addr) (l1 c1 l2 c2 : Nat) (ch pl : List Int) (w : World) (hM0 : R.la ≤ 1000000000000000 → R.lb ≤ 1000000000000000 → R.lc ≤ 1000000000000000 → R.ld ≤ 1000000000000000 → IsM w R M) (hS0 : RS.Q.la ≤ 1000000000000000 → RS.Q.lb ≤ 1000000000000000 → RS.Q.lc ≤ 1000000000000000 → RS.lh ≤ 1000000000000000 → IsS w RS S) (i1 : IsT 1 intCells w A1 l1 ch) (i2 : IsT 1 intCells w A2 l2 pl) (k2 : l2 ≤ c2 ∧ c2 ≤ 9223372036854775807) : Calls Try.prog 4 #[(.agg (machCells R M)), (RS.v S.tick), (.agg #[.slice A1 l1 c1, .slice A2 l2 c2])] w (Ret (.bool true) w) := by
  refine calls_ax (vs := [(.agg (machCells R M)), (RS.v S.tick), (.agg #[.slice A1 l1 c1, .slice A2 l2 c2])]) Try.func4 rfl rfl ?_
  refine ac_seq ?_
  refine ac_region ?_
  refine al_new (fun b => .pointer (some ⟨b, 0, none⟩)) (r_box rfl rfl) rfl rfl rfl ?_
  intro b1
  refine al_new (fun b => .pointer (some ⟨b, 0, none⟩)) (r_box rfl rfl) rfl rfl rfl ?_
  intro b2
  refine al_new (fun b => .pointer (some ⟨b, 0, none⟩)) (r_box rfl rfl) rfl rfl rfl ?_
  intro b3
  refine al_q (q_assign rfl) rfl rfl rfl ?_
  refine al_end ?_
  refine aq_then ?_
  refine ac_seq ?_
  refine ac_seq ?_
  refine ac_region ?_
  refine al_q (q_loadAll (i := 2) rfl rfl Try.isAgg29 Try.sizeOf29 rfl) rfl rfl rfl ?_
  refine al_q (q_loadAll (i := 1) rfl rfl Try.isAgg35 Try.sizeOf35 rfl) rfl rfl rfl ?_
  refine al_call Try.call9 (.cons rfl (.cons rfl .nil)) rfl rfl (fun w1 hs1 => ?_)
  refine (brief3_any R M RS S _).mono ?_
  rintro e u1 ⟨bb, rfl, hbb, hb_1⟩
  refine ⟨_, rfl, hb_1, ?_⟩
  clear hs1
  refine al_q (q_not rfl) rfl rfl rfl ?_
  refine al_end ?_
  refine aq_then ?_
  refine ac_cond rfl (fun h1 => ?_) (fun h1 => ?_)
  · skip
    refine ac_seq ?_
    refine ac_region ?_
    refine al_call Try.call10 .nil rfl rfl (fun w2 hs2 => ?_)
    refine (awake3_any _).mono ?_
    rintro e u2 ⟨rfl, hb_2⟩
    refine ⟨_, rfl, hb_2, ?_⟩
    clear hs2
    refine al_q (q_assign rfl) rfl rfl rfl ?_
    refine al_end ?_
    refine aq_then ?_
    refine ac_ret ?_
    refine aq_thenR ?_
    refine ret1 Try.results4 rfl (fun w9 hs => ?_)
    exact ⟨rfl, hs.below⟩
  · have hB := hbb (by simpa using h1)
    obtain ⟨⟨m1, m2, m3, m4⟩, m5, m6, m7, m8⟩ := hB
    have hM := hM0 (by omega) (by omega) (by omega) (by omega)
    have hS := hS0 (by omega) (by omega) (by omega) (by omega)
    refine ac_skip ?_
    refine aq_then ?_
    refine ac_seq ?_
    refine ac_region ?_
    refine al_q (q_loadAll (i := 2) rfl rfl Try.isAgg29 Try.sizeOf29 rfl) rfl rfl rfl ?_
    refine al_q (q_loadAll (i := 1) rfl rfl Try.isAgg35 Try.sizeOf35 rfl) rfl rfl rfl ?_
    refine al_q (q_loadAll (i := 0) rfl rfl Try.isAgg43 Try.sizeOf43 rfl) rfl rfl rfl ?_
    refine al_call Try.call16 (.cons rfl (.cons rfl (.cons rfl .nil))) rfl rfl (fun w3 hs3 => ?_)
    refine (cstep_any R M RS S A1 A2 l1 c1 l2 c2 ch pl _ (hM.below hs3.below) (hS.below hs3.below) (i1.below hs3.below) (i2.below hs3.below) k2).mono ?_
    rintro e u3 ⟨y, ny, rfl, k1_, k2_, hb_3⟩
    obtain ⟨rfl, X_y, N_y⟩ := outS_data k1_ k2_
    refine ⟨_, rfl, hb_3, ?_⟩
    clear hs3
    refine al_q (q_move rfl) rfl rfl rfl ?_
    refine al_q (q_extract rfl rfl) rfl rfl rfl ?_
    refine al_q (q_extract rfl rfl) rfl rfl rfl ?_
    refine al_new (fun b => .pointer (some ⟨b, 0, none⟩)) (r_alloc Try.zeroValue35 rfl) rfl rfl rfl ?_
    intro b4
    refine al_storeAll (i := 0) rfl rfl rfl rfl Try.sizeOf35 rfl rfl .k0 rfl ?_
    refine al_q (q_assign rfl) rfl rfl rfl ?_
    refine al_end ?_
    refine aq_then ?_
    refine ac_seq ?_
    refine ac_seq ?_
    refine ac_region ?_
    refine al_q (q_move rfl) rfl rfl rfl ?_
    refine al_q (q_neq rfl rfl) rfl rfl rfl ?_
    refine al_end ?_
    refine aq_then ?_
    refine ac_cond rfl (fun h2 => ?_) (fun h2 => ?_)
    · skip
      refine ac_seq ?_
      refine ac_region ?_
      refine al_call Try.call10 .nil rfl rfl (fun w4 hs4 => ?_)
      refine (awake3_any _).mono ?_
      rintro e u4 ⟨rfl, hb_4⟩
      refine ⟨_, rfl, hb_4, ?_⟩
      clear hs4
      refine al_q (q_assign rfl) rfl rfl rfl ?_
      refine al_end ?_
      refine aq_then ?_
      refine ac_ret ?_
      refine aq_thenR ?_
      refine ret1 Try.results4 rfl (fun w9 hs => ?_)
      exact ⟨rfl, hs.below⟩
    · have hk0 : (stepE M S ch pl) = 0 := by simpa using h2
      obtain ⟨hf, hd1, hd2, hd3⟩ := stepE_ok hk0
      have hfD := stepE_fit hk0
      have hD : (endD (stepE M S ch pl) (stepD M S ch pl)) = (stepD M S ch pl) := if_pos hk0
      have n1 := hM.coils.1
      have n2 := hS.cur.coils.1
      have n3 := hf.cur.coils.1
      have n5 := (sound_of hf.cur.check).coils.1
      have q7 : RS.Q.la = M.coils.length := by omega
      have hft := hf.tick
      have hly : (endD (stepE M S ch pl) (stepD M S ch pl)).C.coils.length = M.coils.length := by rw [hD]; exact hfD.cur.coils.1
      refine ac_skip ?_
      refine aq_then ?_
      refine ac_seq ?_
      refine ac_seq ?_
      refine ac_region ?_
      refine al_q (q_loadAll (i := 3) rfl rfl Try.isAgg29 Try.sizeOf29 rfl) rfl rfl rfl ?_
      refine al_q (q_loadAll (i := 0) rfl rfl Try.isAgg35 Try.sizeOf35 rfl) rfl rfl rfl ?_
      refine al_call Try.call14 (.cons rfl (.cons rfl .nil)) rfl rfl (fun w5 hs5 => ?_)
      refine (rvalidState_any R M y (endD (stepE M S ch pl) (stepD M S ch pl)) _ (hM.below hs5.below) (hs5.isS (.head _) X_y N_y)).mono ?_
      rintro e u5 ⟨rfl, hb_5⟩
      refine ⟨_, rfl, hb_5, ?_⟩
      clear hs5
      refine al_q (q_not rfl) rfl rfl rfl ?_
      refine al_q (q_move rfl) rfl rfl rfl ?_
      refine aq_split 32 rfl (fun hb1 => ?_) (fun hb1 => ?_)
      · exfalso; rw [hD, fitS_iff.2 hfD] at hb1; cases hb1
      · skip
        refine al_q (q_fieldAddr 0 rfl Try.runUnderlying35 rfl Try.sizeOf3 (by decide) rfl) rfl rfl rfl ?_
        refine al_q (q_load (i := 0) rfl rfl rfl Try.isAgg3) rfl rfl rfl ?_
        refine al_q (q_fieldAddr 0 rfl Try.runUnderlying35 rfl Try.sizeOf3 (by decide) rfl) rfl rfl rfl ?_
        refine al_q (q_load (i := 2) rfl rfl rfl Try.isAgg3) rfl rfl rfl ?_
        refine al_q (q_add rfl rfl (by omega)) rfl rfl rfl ?_
        refine al_q (q_same (v' := .bool false) (q_neq rfl rfl) (by rw [hD]; simp [stepD])) rfl rfl rfl ?_
        refine al_q (q_pickF rfl rfl) rfl rfl rfl ?_
        refine al_q (q_move rfl) rfl rfl rfl ?_
        refine al_q (q_fieldAddr 1 rfl Try.runUnderlying35 rfl Try.sizeOf32 (by decide) rfl) rfl rfl rfl ?_
        refine al_q (q_fieldAddr 1 rfl Try.runUnderlying32 rfl Try.sizeOf30 (by decide) rfl) rfl rfl rfl ?_
        refine al_q (q_load (i := 2) rfl rfl rfl Try.isAgg30) rfl rfl rfl ?_
        refine al_q (q_lenS rfl Try.runUnderlying30) rfl rfl rfl ?_
        refine al_q (q_fieldAddr 1 rfl Try.runUnderlying29 rfl Try.sizeOf22 (by decide) rfl) rfl rfl rfl ?_
        refine al_q (q_load (i := 3) rfl rfl rfl Try.isAgg22) rfl rfl rfl ?_
        refine al_q (q_lenS rfl Try.runUnderlying22) rfl rfl rfl ?_
        refine al_q (q_same (v' := .bool false) (q_neq rfl rfl) (by rw [q7, n1]; simp)) rfl rfl rfl ?_
        refine al_q (q_pickF rfl rfl) rfl rfl rfl ?_
        refine al_end ?_
        refine aq_then ?_
        refine ac_condF rfl ?_
        refine ac_skip ?_
        refine aq_then ?_
        refine ac_seq ?_
        refine ac_seq ?_
        refine ac_region ?_
        refine al_q (q_assign rfl) rfl rfl rfl ?_
        refine al_end ?_
        refine aq_then ?_
        refine ac_block ?_
        refine ac_loop (β := Nat) (fun x => x ≤ R.la) (fun x => [(3, (.pointer (some ⟨b1, 0, none⟩))), (4, (.pointer (some ⟨b2, 0, none⟩))), (6, (.bool false)), (7, (.pointer (some ⟨b4, 0, none⟩))), (9, (.int .i64 (x : Int)))]) (fun _ => _) (fun x => [(b4, _), (b3, _), (b2, _), (b1, _)]) (fun x => R.la - x) 0 (by omega) ⟨rfl, rfl, rfl, rfl, rfl, trivial⟩ (fun w9 hs => hs) (fun x hF1 => ?_)
        refine ac_seq ?_
        refine ac_seq ?_
        refine ac_region ?_
        refine al_q (q_move rfl) rfl rfl rfl ?_
        refine al_q (q_fieldAddr 1 rfl Try.runUnderlying29 rfl Try.sizeOf22 (by decide) rfl) rfl rfl rfl ?_
        refine al_q (q_load (i := 3) rfl rfl rfl Try.isAgg22) rfl rfl rfl ?_
        refine al_q (q_lenS rfl Try.runUnderlying22) rfl rfl rfl ?_
        refine al_q (q_lss rfl rfl) rfl rfl rfl ?_
        refine al_end ?_
        refine aq_then ?_
        refine ac_cond rfl (fun h3 => ?_) (fun h3 => ?_)
        · have hxl : x < R.la := by have := of_decide_eq_true h3; omega
          obtain ⟨b11, o11, hA1, hlt1, hget1⟩ := hM.coils.2 (by omega)
          have hx1 := cA_get (M := M) (k := x) (by omega)
          obtain ⟨b21, o21, hA2, hlt2, hget2⟩ := hS.cur.coils.2 (by omega)
          have hx2 := iA_get (l := S.C.coils) (k := x) (by omega)
          obtain ⟨b61, o61, hA6, hlt6, hget6⟩ := X_y.cur.coils.2 (by have := X_y.cur.coils.1; omega)
          have hx6 := iA_get (l := (endD (stepE M S ch pl) (stepD M S ch pl)).C.coils) (k := x) (by omega)
          have hly2 := X_y.cur.coils.1
          have hnow : (iA (endD (stepE M S ch pl) (stepD M S ch pl)).C.coils x) = iA S.C.coils x + appI (cA M x) (iA S.C.coils x) (iA ch x) (bA S.trip x) := by rw [hD]; exact iA_lst _ (by omega)
          have hco := cA_ok hf.cur.check (k := x) (by omega)
          have q1 := hco.step
          have q2 := hco.cur
          have q3 := hf.cur.coils.2 _ (List.mem_of_getElem? hx2)
          have q4 := appI_bd hco (iA S.C.coils x) (iA ch x) (bA S.trip x)
          have q5 := new_bd hco (ch := iA ch x) (t := bA S.trip x) q3
          refine ac_skip ?_
          refine aq_then ?_
          refine ac_seq ?_
          refine ac_block ?_
          refine ac_seq ?_
          refine ac_draw 20 (by kernel_rfl) (by kernel_rfl) ?_
          refine ah_take 0 (fun w9 hs => hs) rfl rfl rfl (by kernel_rfl) (by kernel_rfl) (by kernel_rfl) (fun _ _ _ h => h) rfl (q_fieldAddr 1 rfl Try.runUnderlying35 rfl Try.sizeOf32 (by decide) rfl) ?_
          refine ah_take 1 (fun w9 hs => hs) rfl rfl rfl (by kernel_rfl) (by kernel_rfl) (by kernel_rfl) (fun _ _ _ h => h) rfl (q_fieldAddr 1 rfl Try.runUnderlying32 rfl Try.sizeOf30 (by decide) rfl) ?_
          refine ah_take 2 (fun w9 hs => hs) rfl rfl rfl (by kernel_rfl) (by kernel_rfl) (by kernel_rfl) (fun _ _ _ h => h) rfl (q_load (i := 2) rfl rfl rfl Try.isAgg30) ?_
          refine ah_take 3 (fun w9 hs => hs) rfl rfl rfl (by kernel_rfl) (by kernel_rfl) (by kernel_rfl) (fun _ _ _ h => h) rfl (q_move rfl) ?_
          refine ah_take 4 (fun w9 hs => hs) rfl rfl rfl (by kernel_rfl) (by kernel_rfl) (by kernel_rfl) (fun _ _ _ h => h) rfl (q_indexAddrA (i := x) (o21 + x * 1 + 0) hA2 rfl rfl rfl (by omega) Try.runUnderlying30 Try.sizeOf3 rfl) ?_
          refine ah_take 5 (fun w9 hs => hs) rfl rfl rfl (by kernel_rfl) (by kernel_rfl) (by kernel_rfl) (fun _ _ _ h => h) rfl (q_loadX rfl Try.isAgg3 (fun w9 hs => (hs.below.cell (p := ⟨_, _, none⟩) hlt2).trans ((hget2 x _ hx2) 0 _ rfl))) ?_
          refine ah_take 6 (fun w9 hs => hs) rfl rfl rfl (by kernel_rfl) (by kernel_rfl) (by kernel_rfl) (fun _ _ _ h => h) rfl (q_fieldAddr 1 rfl Try.runUnderlying35 rfl Try.sizeOf32 (by decide) rfl) ?_
          refine ah_take 7 (fun w9 hs => hs) rfl rfl rfl (by kernel_rfl) (by kernel_rfl) (by kernel_rfl) (fun _ _ _ h => h) rfl (q_fieldAddr 1 rfl Try.runUnderlying32 rfl Try.sizeOf30 (by decide) rfl) ?_
          refine ah_take 8 (fun w9 hs => hs) rfl rfl rfl (by kernel_rfl) (by kernel_rfl) (by kernel_rfl) (fun _ _ _ h => h) rfl (q_load (i := 0) rfl rfl rfl Try.isAgg30) ?_
          refine ah_take 9 (fun w9 hs => hs) rfl rfl rfl (by kernel_rfl) (by kernel_rfl) (by kernel_rfl) (fun _ _ _ h => h) rfl (q_move rfl) ?_
          refine ah_take 10 (fun w9 hs => hs) rfl rfl rfl (by kernel_rfl) (by kernel_rfl) (by kernel_rfl) (fun _ _ _ h => h) rfl (q_indexAddrA (i := x) (o61 + x * 1 + 0) hA6 rfl rfl rfl (by omega) Try.runUnderlying30 Try.sizeOf3 rfl) ?_
          refine ah_take 11 (fun w9 hs => hs) rfl rfl rfl (by kernel_rfl) (by kernel_rfl) (by kernel_rfl) (fun _ _ _ h => h) rfl (q_loadX rfl Try.isAgg3 (fun w9 hs => (hs.cellOf (.tail _ (.head _)) (N_y.a _ _ hA6) hlt6 (hget6 x _ hx6 0 _ rfl)))) ?_
          refine ah_take 12 (fun w9 hs => hs) rfl rfl rfl (by kernel_rfl) (by kernel_rfl) (by kernel_rfl) (fun _ _ _ h => h) rfl (q_fieldAddr 1 rfl Try.runUnderlying29 rfl Try.sizeOf22 (by decide) rfl) ?_
          refine ah_take 13 (fun w9 hs => hs) rfl rfl rfl (by kernel_rfl) (by kernel_rfl) (by kernel_rfl) (fun _ _ _ h => h) rfl (q_load (i := 3) rfl rfl rfl Try.isAgg22) ?_
          refine ah_take 14 (fun w9 hs => hs) rfl rfl rfl (by kernel_rfl) (by kernel_rfl) (by kernel_rfl) (fun _ _ _ h => h) rfl (q_move rfl) ?_
          refine ah_take 15 (fun w9 hs => hs) rfl rfl rfl (by kernel_rfl) (by kernel_rfl) (by kernel_rfl) (fun _ _ _ h => h) rfl (q_indexAddrA (i := x) (o11 + x * 8 + 0) hA1 rfl rfl rfl (by omega) Try.runUnderlying22 Try.sizeOf46 rfl) ?_
          refine ah_take 16 (fun w9 hs => hs) rfl rfl rfl (by kernel_rfl) (by kernel_rfl) (by kernel_rfl) (fun _ _ _ h => h) rfl (q_loadXs (CoilD.cells (cA M x)) rfl Try.isAgg46 Try.sizeOf46 (fun w9 hs j9 v9 h9 => by rw [addr_add]; exact (hs.below.cell (p := ⟨_, _, none⟩) hlt1).trans ((hget1 x _ hx1) j9 v9 h9)) rfl) ?_
          refine ah_one 17 rfl (by kernel_rfl) (fun hok1 hcl1 => ?_)
          refine al_new (fun b => .pointer (some ⟨b, 0, none⟩)) (r_alloc Try.zeroValue46 rfl) rfl rfl rfl ?_
          intro b5
          refine al_end (ah_back hok1 hcl1 (fun w9 hs => (hs.tail 1 rfl)) ?_)
          refine ah_one 18 rfl (by kernel_rfl) (fun hok2 hcl2 => ?_)
          refine al_q (q_assign rfl) rfl rfl rfl ?_
          refine al_end (ah_back hok2 hcl2 (fun w9 hs => (hs.tail 1 rfl)) ?_)
          refine ah_one 19 rfl (by kernel_rfl) (fun hok3 hcl3 => ?_)
          refine al_q (q_assign rfl) rfl rfl rfl ?_
          refine al_end (ah_back hok3 hcl3 (fun w9 hs => (hs.tail 1 rfl)) ?_)
          refine ah_one 20 rfl (by kernel_rfl) (fun hok4 hcl4 => ?_)
          refine al_storeAll (i := 0) rfl rfl rfl rfl Try.sizeOf46 rfl rfl .k0 rfl ?_
          refine al_end (ah_last (by kernel_rfl) ?_)
          refine aq_then ?_
          refine aq_keepL [3, 4, 6, 7, 9, 10, 11, 12, 50, 51, 52, 53, 54, 57, 58, 59, 60, 61, 62, 63, 64, 65, 66, 67, 68, 69, 70, 71, 72, 73] (.cons rfl (.cons rfl (.cons rfl (.cons rfl (.cons rfl (.cons rfl (.cons rfl (.cons rfl (.cons rfl (.cons rfl (.cons rfl (.cons rfl (.cons rfl (.cons rfl (.cons rfl (.cons rfl (.cons rfl (.cons rfl (.cons rfl (.cons rfl (.cons rfl (.cons rfl (.cons rfl (.cons rfl (.cons rfl (.cons rfl (.cons rfl (.cons rfl (.cons rfl (.cons rfl .nil)))))))))))))))))))))))))))))) ?_
          refine ac_seq ?_
          refine ac_seq ?_
          refine ac_region ?_
          refine al_q (q_move rfl) rfl rfl rfl ?_
          refine al_q (q_move rfl) rfl rfl rfl ?_
          refine al_q (q_sub rfl rfl (by omega)) rfl rfl rfl ?_
          refine al_q (q_fieldAddr 5 rfl Try.runUnderlying46 rfl Try.sizeOf3 (by decide) rfl) rfl rfl rfl ?_
          refine al_q (q_load (i := 0) rfl rfl rfl Try.isAgg3) rfl rfl rfl ?_
          refine al_q (q_same (v' := .bool false) (q_gtr rfl rfl) (congrArg Value.bool (decide_eq_false (by omega)))) rfl rfl rfl ?_
          refine al_q (q_move rfl) rfl rfl rfl ?_
          refine al_q (q_move rfl) rfl rfl rfl ?_
          refine al_q (q_move rfl) rfl rfl rfl ?_
          refine al_q (q_sub rfl rfl (by omega)) rfl rfl rfl ?_
          refine al_q (q_fieldAddr 5 rfl Try.runUnderlying46 rfl Try.sizeOf3 (by decide) rfl) rfl rfl rfl ?_
          refine al_q (q_load (i := 0) rfl rfl rfl Try.isAgg3) rfl rfl rfl ?_
          refine al_q (q_same (v' := .bool false) (q_gtr rfl rfl) (congrArg Value.bool (decide_eq_false (by omega)))) rfl rfl rfl ?_
          refine al_q (q_pickF rfl rfl) rfl rfl rfl ?_
          refine al_end ?_
          refine aq_then ?_
          refine ac_condF rfl ?_
          refine ac_skip ?_
          refine aq_then ?_
          refine ac_seq ?_
          refine ac_region ?_
          refine al_q (q_move rfl) rfl rfl rfl ?_
          refine al_q (q_fieldAddr 4 rfl Try.runUnderlying46 rfl Try.sizeOf3 (by decide) rfl) rfl rfl rfl ?_
          refine al_q (q_load (i := 0) rfl rfl rfl Try.isAgg3) rfl rfl rfl ?_
          refine al_q (q_neg rfl (by omega)) rfl rfl rfl ?_
          refine al_q (q_geq rfl rfl) rfl rfl rfl ?_
          refine al_q (q_move rfl) rfl rfl rfl ?_
          refine aq_split 93 rfl (fun hb2 => ?_) (fun hb2 => ?_)
          · have g93 := of_decide_eq_true hb2
            refine al_q (q_move rfl) rfl rfl rfl ?_
            refine al_q (q_fieldAddr 4 rfl Try.runUnderlying46 rfl Try.sizeOf3 (by decide) rfl) rfl rfl rfl ?_
            refine al_q (q_load (i := 0) rfl rfl rfl Try.isAgg3) rfl rfl rfl ?_
            refine al_q (q_leq rfl rfl) rfl rfl rfl ?_
            refine al_q (q_pickT rfl rfl) rfl rfl rfl ?_
            refine al_q (q_move rfl) rfl rfl rfl ?_
            refine aq_split 99 rfl (fun hb3 => ?_) (fun hb3 => ?_)
            · have g99 := of_decide_eq_true hb3
              have hkp := new_keep hco (ch := iA ch x) (t := bA S.trip x) ⟨by omega, by omega⟩
              refine al_q (q_move rfl) rfl rfl rfl ?_
              refine al_q (q_fieldAddr 4 rfl Try.runUnderlying46 rfl Try.sizeOf3 (by decide) rfl) rfl rfl rfl ?_
              refine al_q (q_load (i := 0) rfl rfl rfl Try.isAgg3) rfl rfl rfl ?_
              refine al_q (q_neg rfl (by omega)) rfl rfl rfl ?_
              refine al_q (q_same (v' := .bool false) (q_lss rfl rfl) (congrArg Value.bool (decide_eq_false (by omega)))) rfl rfl rfl ?_
              refine al_q (q_move rfl) rfl rfl rfl ?_
              refine al_q (q_move rfl) rfl rfl rfl ?_
              refine al_q (q_fieldAddr 4 rfl Try.runUnderlying46 rfl Try.sizeOf3 (by decide) rfl) rfl rfl rfl ?_
              refine al_q (q_load (i := 0) rfl rfl rfl Try.isAgg3) rfl rfl rfl ?_
              refine al_q (q_same (v' := .bool false) (q_gtr rfl rfl) (congrArg Value.bool (decide_eq_false (by omega)))) rfl rfl rfl ?_
              refine al_q (q_pickF rfl rfl) rfl rfl rfl ?_
              refine al_q (q_pickT rfl rfl) rfl rfl rfl ?_
              refine al_end ?_
              refine aq_then ?_
              refine ac_condF rfl ?_
              refine ac_skip ?_
              refine aq_inN ?_
              refine aq_then ?_
              refine ac_region ?_
              refine al_q (q_move rfl) rfl rfl rfl ?_
              refine al_q (q_add rfl rfl (by omega)) rfl rfl rfl ?_
              refine al_q (q_assign rfl) rfl rfl rfl ?_
              refine al_end ?_
              refine aq_then ?_
              skip
              refine aq_round (x + 1) (by omega) (by omega) ⟨rfl, rfl, rfl, rfl, rfl, trivial⟩ (fun w9 hs => (hs.tail 1 rfl))
            · skip
              refine al_skip rfl rfl rfl ?_
              refine al_skip rfl rfl rfl ?_
              refine al_skip rfl rfl rfl ?_
              refine al_skip rfl rfl rfl ?_
              refine al_skip rfl rfl rfl ?_
              refine al_skip rfl rfl rfl ?_
              refine al_skip rfl rfl rfl ?_
              refine al_skip rfl rfl rfl ?_
              refine al_skip rfl rfl rfl ?_
              refine al_skip rfl rfl rfl ?_
              refine al_skip rfl rfl rfl ?_
              refine al_q (q_pickF rfl rfl) rfl rfl rfl ?_
              refine al_end ?_
              refine aq_then ?_
              refine ac_condF rfl ?_
              refine ac_skip ?_
              refine aq_inN ?_
              refine aq_then ?_
              refine ac_region ?_
              refine al_q (q_move rfl) rfl rfl rfl ?_
              refine al_q (q_add rfl rfl (by omega)) rfl rfl rfl ?_
              refine al_q (q_assign rfl) rfl rfl rfl ?_
              refine al_end ?_
              refine aq_then ?_
              skip
              refine aq_round (x + 1) (by omega) (by omega) ⟨rfl, rfl, rfl, rfl, rfl, trivial⟩ (fun w9 hs => (hs.tail 1 rfl))
          · skip
            refine al_skip rfl rfl rfl ?_
            refine al_skip rfl rfl rfl ?_
            refine al_skip rfl rfl rfl ?_
            refine al_skip rfl rfl rfl ?_
            refine al_q (q_pickF rfl rfl) rfl rfl rfl ?_
            refine al_q (q_move rfl) rfl rfl rfl ?_
            refine al_skip rfl rfl rfl ?_
            refine al_skip rfl rfl rfl ?_
            refine al_skip rfl rfl rfl ?_
            refine al_skip rfl rfl rfl ?_
            refine al_skip rfl rfl rfl ?_
            refine al_skip rfl rfl rfl ?_
            refine al_skip rfl rfl rfl ?_
            refine al_skip rfl rfl rfl ?_
            refine al_skip rfl rfl rfl ?_
            refine al_skip rfl rfl rfl ?_
            refine al_skip rfl rfl rfl ?_
            refine al_q (q_pickF rfl rfl) rfl rfl rfl ?_
            refine al_end ?_
            refine aq_then ?_
            refine ac_condF rfl ?_
            refine ac_skip ?_
            refine aq_inN ?_
            refine aq_then ?_
            refine ac_region ?_
            refine al_q (q_move rfl) rfl rfl rfl ?_
            refine al_q (q_add rfl rfl (by omega)) rfl rfl rfl ?_
            refine al_q (q_assign rfl) rfl rfl rfl ?_
            refine al_end ?_
            refine aq_then ?_
            skip
            refine aq_round (x + 1) (by omega) (by omega) ⟨rfl, rfl, rfl, rfl, rfl, trivial⟩ (fun w9 hs => (hs.tail 1 rfl))
        · skip
          refine ac_exit ?_
          refine aq_thenE ?_
          refine aq_thenE ?_
          refine aq_hit ?_
          refine aq_then ?_
          refine ac_seq ?_
          refine ac_region ?_
          refine al_call Try.call10 .nil rfl rfl (fun w6 hs6 => ?_)
          refine (awake3_any _).mono ?_
          rintro e u6 ⟨rfl, hb_6⟩
          refine ⟨_, rfl, hb_6, ?_⟩
          clear hs6
          refine al_q (q_assign rfl) rfl rfl rfl ?_
          refine al_end ?_
          refine aq_then ?_
          refine ac_ret ?_
          refine ret1 Try.results4 rfl (fun w9 hs => ?_)
          exact ⟨rfl, hs.below⟩

end Go.Proofs.Ytcjndnadibbcbaa
end
