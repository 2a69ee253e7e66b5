import Derived.Test.YtnikdbglpimadaaGreatJAS
import Derived.Test.YtnikdbglpimadaaGreatJBH
import Derived.Test.YtnikdbglpimadaaGreatJBO
import Derived.Test.YtnikdbglpimadaaGreatJBQ
import Derived.Test.YtnikdbglpimadaaGreatRows
import Derived.KernelRfl
import Derived.Laws.StructEq
section
/- The law ControlRooms, over this seat's translation (written by ax_cs4.py). -/
namespace Go.Proofs.YtnikdbglpimadaaGreat
set_option linter.unusedVariables false
set_option linter.unusedSimpArgs false
open Go.RowKit

theorem cutE7_ok {M : MachD} {S : StD} {ws : List Int} (h : cutE7 M S ws = 0) : FitS M S ∧ roomE M S = 0 ∧ ws.length = M.coils.length ∧ applE M S ws = 0 := by
  unfold cutE7 at h; split at h
  · rename_i h1
    obtain ⟨h1, h2, h3⟩ := h1
    refine ⟨fitS_iff.1 h1, if_pos h1, h2, if_pos ⟨h1, validCh_iff.2 ⟨h2, fun x hx => ?_⟩⟩⟩
    unfold numB at h3
    have := wthn_iff.1 (List.all_eq_true.1 h3 x hx)
    omega
  · cases h
/-- a change that lies in the room is applied as it is -/
theorem app_room {M : MachD} {S : StD} (hf : FitS M S) {ws : List Int} {k : Nat} (hk : k < M.coils.length) (ht : bA S.trip k = false) (h1 : iA S.C.coils k ≤ (cA M k).cur) (h2 : iA S.C.coils k ≥ -(cA M k).cur) (hc : cont (roomN M S k).lo (roomN M S k).hi (iA ws k) = true) : appA M S ws k = iA ws k := by
  have hco := cA_ok hf.cur.check hk
  have q1 := hco.cur
  have q2 := hco.step
  rw [cont_room hf hk] at hc
  have hr : roomN M S k = ⟨max (-(cA M k).step) (-(cA M k).cur - iA S.C.coils k), min (cA M k).step ((cA M k).cur - iA S.C.coils k)⟩ := if_pos ⟨ht, wthn_iff.2 ⟨by omega, h1⟩⟩
  have hw := wthn_iff.1 hc
  rw [hr] at hw
  simp only at hw
  unfold appA appI
  rw [if_neg (by rw [ht]; decide)]
  have e1 : cutI (iA ws k) (cA M k).step = iA ws k := by unfold cutI; omega
  rw [e1]
  have e2 : cutI (iA S.C.coils k + iA ws k) (cA M k).cur = iA S.C.coils k + iA ws k := by unfold cutI; omega
  rw [e2]
  unfold cutI; omega

theorem ints_true (A B : Option Addr) (la ca lb cb : Nat) (xs : List Int) (w : World) (h1 : IsT 1 intCells w A la xs) (h2 : IsT 1 intCells w B lb xs) (l1 : la ≤ 1000000000000000) (l2 : lb ≤ 1000000000000000) : Calls Tryz.prog 13 #[.slice A la ca, .slice B lb cb] w (Ret (.bool true) w) := by
  have := ints_any A B la ca lb cb xs xs w h1 h2 l1 l2
  rwa [decide_eq_true rfl] at this

set_option maxRecDepth 100000 in
theorem cse_eq_neq_apiSpan (a0 b0 : Int) (a1 b1 : Int) : ∀ w, (binOp .neq 44 (.agg #[.int .i64 a0, .int .i64 a1]) (.agg #[.int .i64 b0, .int .i64 b1])).run Tryz.prog w = .ok (.bool (!decide (a0 = b0 ∧ a1 = b1))) w := by
  intro w
  have e : binOp .neq 44 (.agg #[.int .i64 a0, .int .i64 a1]) (.agg #[.int .i64 b0, .int .i64 b1]) = (do pure (.bool (!(← Op.equal 44 (.agg #[.int .i64 a0, .int .i64 a1]) (.agg #[.int .i64 b0, .int .i64 b1])))) : Sem Value) := rfl
  have h : ∀ w, (Op.equal 44 (.agg #[.int .i64 a0, .int .i64 a1]) (.agg #[.int .i64 b0, .int .i64 b1])).run Tryz.prog w = .ok (decide (a0 = b0 ∧ a1 = b1)) w := by
    intro w
    show (Op.equalIn 10000 44 _ _).run _ w = _
    rw [run_equalIn_struct w 9999 44 _ _ (by kernel_rfl) (by kernel_rfl)]
    simp [Program.fieldsOf, Tryz.underlying44, Op.eqFields, go_sem, Tryz.underlying3, Tryz.isAgg3, Tryz.sizeOf3, str_eq]
    by_cases h0 : a0 = b0 <;> by_cases h1 : a1 = b1 <;> simp [h0, h1]
  rw [e]; simp [h]

set_option maxRecDepth 100000 in
theorem rooms_walk (R : MachR) (M : MachD) (RS : StR) (S : StD) (A1 : Option Addr) (l1 c1 : Nat) (ws : List Int) (w : World) (hM0 : R.la ≤ 1000000000000000 → R.lb ≤ 1000000000000000 → R.lc ≤ 1000000000000000 → R.ld ≤ 1000000000000000 → IsM w R M) (hS0 : RS.Q.la ≤ 1000000000000000 → RS.Q.lb ≤ 1000000000000000 → RS.Q.lc ≤ 1000000000000000 → RS.lh ≤ 1000000000000000 → IsS w RS S) (i1 : IsT 1 intCells w A1 l1 ws) : Calls Tryz.prog 3 #[(.agg (machCells R M)), (RS.v S.tick), (.slice A1 l1 c1)] w (Ret (.bool true) w) := by
  refine calls_ax (vs := [(.agg (machCells R M)), (RS.v S.tick), (.slice A1 l1 c1)]) Tryz.func3 rfl rfl ?_
  refine ac_seq ?_
  refine ac_region ?_
  refine al_new (fun b => .pointer (some ⟨b, 0, none⟩)) (r_box rfl rfl) rfl rfl rfl ?_
  intro b1
  refine al_new (fun b => .pointer (some ⟨b, 0, none⟩)) (r_box rfl rfl) rfl rfl rfl ?_
  intro b2
  refine al_q (q_assign rfl) rfl rfl rfl ?_
  refine al_end ?_
  refine aq_then ?_
  refine ac_seq ?_
  refine ac_seq ?_
  refine ac_region ?_
  refine al_call Tryz.call6 .nil rfl rfl (fun w1 hs1 => ?_)
  refine (awake7_any _).mono ?_
  rintro e u1 ⟨rfl, hb_1⟩
  refine ⟨_, rfl, hb_1, ?_⟩
  clear hs1
  refine al_q (q_not rfl) rfl rfl rfl ?_
  refine al_end ?_
  refine aq_then ?_
  refine ac_condF rfl ?_
  refine ac_skip ?_
  refine aq_then ?_
  refine ac_seq ?_
  refine ac_seq ?_
  refine ac_region ?_
  refine al_q (q_loadAll (i := 1) rfl rfl Tryz.isAgg29 Tryz.sizeOf29 rfl) rfl rfl rfl ?_
  refine al_call Tryz.call7 (.cons rfl .nil) rfl rfl (fun w2 hs2 => ?_)
  refine (large_any R M _).mono ?_
  rintro e u2 ⟨rfl, hb_2⟩
  refine ⟨_, rfl, hb_2, ?_⟩
  clear hs2
  refine al_q (q_move rfl) rfl rfl rfl ?_
  refine aq_split 22 rfl (fun hb1 => ?_) (fun hb1 => ?_)
  · skip
    refine al_skip rfl rfl rfl ?_
    refine al_skip rfl rfl rfl ?_
    refine al_skip rfl rfl rfl ?_
    refine al_q (q_pickT rfl rfl) rfl rfl rfl ?_
    refine al_end ?_
    refine aq_then ?_
    refine ac_condT rfl ?_
    refine ac_seq ?_
    refine ac_region ?_
    refine al_q (q_assign rfl) rfl rfl rfl ?_
    refine al_end ?_
    refine aq_then ?_
    refine ac_ret ?_
    refine aq_thenR ?_
    refine ret1 Tryz.results3 rfl (fun w9 hs => ?_)
    exact ⟨rfl, hs.below⟩
  · obtain ⟨u1, u2, u3, u4, u5⟩ := largeB_bd (by simpa using hb1)
    refine al_q (q_loadAll (i := 0) rfl rfl Tryz.isAgg35 Tryz.sizeOf35 rfl) rfl rfl rfl ?_
    refine al_q (q_move rfl) rfl rfl rfl ?_
    refine al_call Tryz.call8 (.cons rfl (.cons rfl (.cons rfl .nil))) rfl rfl (fun w3 hs3 => ?_)
    refine (heavy_any RS S A1 none l1 c1 0 0 _).mono ?_
    rintro e u3 ⟨hb7, rfl, hhb, hb_3⟩
    refine ⟨_, rfl, hb_3, ?_⟩
    clear hs3
    refine al_q (q_pickF rfl rfl) rfl rfl rfl ?_
    refine al_end ?_
    refine aq_then ?_
    refine ac_cond rfl (fun h1 => ?_) (fun h1 => ?_)
    · skip
      refine ac_seq ?_
      refine ac_region ?_
      refine al_q (q_assign rfl) rfl rfl rfl ?_
      refine al_end ?_
      refine aq_then ?_
      refine ac_ret ?_
      refine aq_thenR ?_
      refine ret1 Tryz.results3 rfl (fun w9 hs => ?_)
      exact ⟨rfl, hs.below⟩
    · obtain ⟨⟨v1, v2, v3, v4, v5⟩, v6, v7⟩ := hhb (by simpa using h1)
      have hM := hM0 (by omega) (by omega) (by omega) (by omega)
      have hS := hS0 (by omega) (by omega) (by omega) (by omega)
      have n1 := hM.coils.1
      have n2 := i1.1
      have hab : True := trivial
      refine ac_skip ?_
      refine aq_then ?_
      refine ac_seq ?_
      refine ac_region ?_
      refine al_q (q_loadAll (i := 1) rfl rfl Tryz.isAgg29 Tryz.sizeOf29 rfl) rfl rfl rfl ?_
      refine al_q (q_loadAll (i := 0) rfl rfl Tryz.isAgg35 Tryz.sizeOf35 rfl) rfl rfl rfl ?_
      refine al_call Tryz.call9 (.cons rfl (.cons rfl .nil)) rfl rfl (fun w4 hs4 => ?_)
      refine (croom_any R M RS S _ (hM.below hs4.below) (hS.below hs4.below)).mono ?_
      rintro e u4 ⟨A_a, n_a, c_a, rfl, I_a, F_a, L_a, hb_4⟩
      refine ⟨_, rfl, hb_4, ?_⟩
      clear hs4
      refine al_q (q_move rfl) rfl rfl rfl ?_
      refine al_q (q_extract rfl rfl) rfl rfl rfl ?_
      refine al_q (q_extract rfl rfl) rfl rfl rfl ?_
      refine al_q (q_assign rfl) rfl rfl rfl ?_
      refine al_q (q_assign rfl) rfl rfl rfl ?_
      refine al_end ?_
      refine aq_then ?_
      refine ac_seq ?_
      refine ac_region ?_
      refine al_q (q_loadAll (i := 1) rfl rfl Tryz.isAgg29 Tryz.sizeOf29 rfl) rfl rfl rfl ?_
      refine al_q (q_loadAll (i := 0) rfl rfl Tryz.isAgg35 Tryz.sizeOf35 rfl) rfl rfl rfl ?_
      refine al_call Tryz.call10 (.cons rfl (.cons rfl .nil)) rfl rfl (fun w5 hs5 => ?_)
      refine (rroom_any R M RS S _ (hM.below hs5.below) (hS.below hs5.below)).mono ?_
      rintro e u5 ⟨A_b, n_b, c_b, rfl, I_b, F_b, L_b, hb_5⟩
      refine ⟨_, rfl, hb_5, ?_⟩
      clear hs5
      refine al_q (q_move rfl) rfl rfl rfl ?_
      refine al_q (q_extract rfl rfl) rfl rfl rfl ?_
      refine al_q (q_extract rfl rfl) rfl rfl rfl ?_
      refine al_q (q_assign rfl) rfl rfl rfl ?_
      refine al_q (q_assign rfl) rfl rfl rfl ?_
      refine al_end ?_
      refine aq_then ?_
      refine ac_seq ?_
      refine ac_seq ?_
      have hnn : n_a = n_b := by have h1 := I_a.1; have h2 := I_b.1; omega
      refine ac_region ?_
      refine al_q (q_move rfl) rfl rfl rfl ?_
      refine al_q (q_move rfl) rfl rfl rfl ?_
      refine al_q (q_same (v' := .bool false) (q_neq rfl rfl) (by simp)) rfl rfl rfl ?_
      refine al_q (q_move rfl) rfl rfl rfl ?_
      refine al_q (q_move rfl) rfl rfl rfl ?_
      refine al_q (q_lenS rfl Tryz.runUnderlying39) rfl rfl rfl ?_
      refine al_q (q_move rfl) rfl rfl rfl ?_
      refine al_q (q_lenS rfl Tryz.runUnderlying39) rfl rfl rfl ?_
      refine al_q (q_same (v' := .bool false) (q_neq rfl rfl) (by rw [hnn]; simp)) rfl rfl rfl ?_
      refine al_q (q_pickF rfl rfl) rfl rfl rfl ?_
      refine al_end ?_
      refine aq_then ?_
      refine ac_condF rfl ?_
      refine ac_skip ?_
      refine aq_then ?_
      refine ac_seq ?_
      refine ac_seq ?_
      refine ac_region ?_
      refine al_q (q_assign rfl) rfl rfl rfl ?_
      refine al_end ?_
      refine aq_then ?_
      refine ac_block ?_
      refine ac_loop (β := Nat) (fun k => True) (fun k => [(2, (.slice A1 l1 c1)), (3, (.pointer (some ⟨b1, 0, none⟩))), (4, (.pointer (some ⟨b2, 0, none⟩))), (6, (.bool false)), (7, (.slice A_a n_a c_a)), (8, (.int .i64 (roomE M S))), (9, (.slice A_b n_b c_b)), (10, (.int .i64 (roomE M S))), (11, (.int .i64 (k : Int)))]) (fun _ => _) (fun k => [(b2, _), (b1, _)]) (fun k => n_a - k) 0 trivial ⟨rfl, rfl, rfl, rfl, rfl, rfl, rfl, rfl, rfl, trivial⟩ (fun w9 hs => hs) (fun k hF1 => ?_)
      refine ac_seq ?_
      refine ac_seq ?_
      refine ac_region ?_
      refine al_q (q_move rfl) rfl rfl rfl ?_
      refine al_q (q_move rfl) rfl rfl rfl ?_
      refine al_q (q_lenS rfl Tryz.runUnderlying39) rfl rfl rfl ?_
      refine al_q (q_lss rfl rfl) rfl rfl rfl ?_
      refine al_end ?_
      refine aq_then ?_
      refine ac_cond rfl (fun h2 => ?_) (fun h2 => ?_)
      · have hkn : k < n_a := by have := of_decide_eq_true h2; omega
        have hr0 : roomE M S = 0 := Classical.byContradiction fun h => by rw [if_neg h] at I_a; have := I_a.1; simp at this; omega
        rw [if_pos hr0] at I_a I_b
        have t1 : n_a = M.coils.length := by have := I_a.1; rw [roomL, lst_length] at this; omega
        have t2 : n_b = M.coils.length := by have := I_b.1; rw [roomL, lst_length] at this; omega
        obtain ⟨b_a, o_a, hA_a, hlt_a, hget_a⟩ := I_a.2 (by omega)
        have hx_a : (roomL M S)[k]? = some (roomN M S k) := lst_get _ (by omega)
        obtain ⟨b_b, o_b, hA_b, hlt_b, hget_b⟩ := I_b.2 (by omega)
        have hx_b : (roomL M S)[k]? = some (roomN M S k) := lst_get _ (by omega)
        refine ac_skip ?_
        refine aq_then ?_
        refine ac_seq ?_
        refine ac_block ?_
        refine ac_seq ?_
        refine ac_draw 8 (by kernel_rfl) (by kernel_rfl) ?_
        refine ah_take 0 (fun w9 hs => hs) rfl rfl rfl (by kernel_rfl) (by kernel_rfl) (by kernel_rfl) (fun _ _ _ h => h) rfl (q_move rfl) ?_
        refine ah_take 1 (fun w9 hs => hs) rfl rfl rfl (by kernel_rfl) (by kernel_rfl) (by kernel_rfl) (fun _ _ _ h => h) rfl (q_move rfl) ?_
        refine ah_take 2 (fun w9 hs => hs) rfl rfl rfl (by kernel_rfl) (by kernel_rfl) (by kernel_rfl) (fun _ _ _ h => h) rfl (q_indexAddrA (i := k) (o_a + k * 2 + 0) hA_a rfl rfl rfl (by omega) Tryz.runUnderlying39 Tryz.sizeOf44 rfl) ?_
        refine ah_take 3 (fun w9 hs => hs) rfl rfl rfl (by kernel_rfl) (by kernel_rfl) (by kernel_rfl) (fun _ _ _ h => h) rfl (q_loadXs (SpanD.cells (roomN M S k)) rfl Tryz.isAgg44 Tryz.sizeOf44 (fun w9 hs j9 v9 h9 => by rw [addr_add]; exact (hs.cellOf (.tail _ (.head _)) (F_a _ _ hA_a) hlt_a (hget_a k _ hx_a j9 v9 h9))) rfl) ?_
        refine ah_take 4 (fun w9 hs => hs) rfl rfl rfl (by kernel_rfl) (by kernel_rfl) (by kernel_rfl) (fun _ _ _ h => h) rfl (q_move rfl) ?_
        refine ah_take 5 (fun w9 hs => hs) rfl rfl rfl (by kernel_rfl) (by kernel_rfl) (by kernel_rfl) (fun _ _ _ h => h) rfl (q_move rfl) ?_
        refine ah_take 6 (fun w9 hs => hs) rfl rfl rfl (by kernel_rfl) (by kernel_rfl) (by kernel_rfl) (fun _ _ _ h => h) rfl (q_indexAddrA (i := k) (o_b + k * 2 + 0) hA_b rfl rfl rfl (by omega) Tryz.runUnderlying39 Tryz.sizeOf44 rfl) ?_
        refine ah_take 7 (fun w9 hs => hs) rfl rfl rfl (by kernel_rfl) (by kernel_rfl) (by kernel_rfl) (fun _ _ _ h => h) rfl (q_loadXs (SpanD.cells (roomN M S k)) rfl Tryz.isAgg44 Tryz.sizeOf44 (fun w9 hs j9 v9 h9 => by rw [addr_add]; exact (hs.cellOf (.head _) (F_b _ _ hA_b) hlt_b (hget_b k _ hx_b j9 v9 h9))) rfl) ?_
        refine ah_take 8 (fun w9 hs => hs) rfl rfl rfl (by kernel_rfl) (by kernel_rfl) (by kernel_rfl) (fun _ _ _ h => h) rfl (q_same (v' := .bool false) (q_cmpS rfl rfl (by kernel_rfl) (cse_eq_neq_apiSpan _ _ _ _)) (by simp)) ?_
        refine ah_done (by kernel_rfl) ?_
        refine aq_then ?_
        refine ac_condF rfl ?_
        refine ac_skip ?_
        refine aq_inN ?_
        refine aq_then ?_
        refine ac_region ?_
        refine al_q (q_move rfl) rfl rfl rfl ?_
        refine al_q (q_add rfl rfl (by omega)) rfl rfl rfl ?_
        refine al_q (q_assign rfl) rfl rfl rfl ?_
        refine al_end ?_
        refine aq_then ?_
        skip
        refine aq_round (k + 1) (by omega) trivial ⟨rfl, rfl, rfl, rfl, rfl, rfl, rfl, rfl, rfl, trivial⟩ (fun w9 hs => hs)
      · skip
        refine ac_exit ?_
        refine aq_thenE ?_
        refine aq_thenE ?_
        refine aq_hit ?_
        refine aq_then ?_
        refine ac_seq ?_
        refine ac_region ?_
        refine al_q (q_loadAll (i := 1) rfl rfl Tryz.isAgg29 Tryz.sizeOf29 rfl) rfl rfl rfl ?_
        refine al_q (q_loadAll (i := 0) rfl rfl Tryz.isAgg35 Tryz.sizeOf35 rfl) rfl rfl rfl ?_
        refine al_q (q_move rfl) rfl rfl rfl ?_
        refine al_call Tryz.call11 (.cons rfl (.cons rfl (.cons rfl .nil))) rfl rfl (fun w6 hs6 => ?_)
        refine (kcut7_any R M RS S A1 l1 c1 ws _ (hM.below hs6.below) (hS.below hs6.below) (i1.below hs6.below) (by omega)).mono ?_
        rintro e u6 ⟨A_p, n_p, c_p, rfl, I_p, F_p, L_p, hb_6⟩
        refine ⟨_, rfl, hb_6, ?_⟩
        clear hs6
        refine al_q (q_move rfl) rfl rfl rfl ?_
        refine al_q (q_extract rfl rfl) rfl rfl rfl ?_
        refine al_q (q_extract rfl rfl) rfl rfl rfl ?_
        refine al_q (q_assign rfl) rfl rfl rfl ?_
        refine al_q (q_assign rfl) rfl rfl rfl ?_
        refine al_end ?_
        refine aq_then ?_
        refine ac_seq ?_
        refine ac_region ?_
        refine al_q (q_loadAll (i := 1) rfl rfl Tryz.isAgg29 Tryz.sizeOf29 rfl) rfl rfl rfl ?_
        refine al_q (q_loadAll (i := 0) rfl rfl Tryz.isAgg35 Tryz.sizeOf35 rfl) rfl rfl rfl ?_
        refine al_q (q_move rfl) rfl rfl rfl ?_
        refine al_call Tryz.call12 (.cons rfl (.cons rfl (.cons rfl .nil))) rfl rfl (fun w7 hs7 => ?_)
        refine (rcut7_any R M RS S A1 l1 c1 ws _ (hM.below hs7.below) (hS.below hs7.below) (i1.below hs7.below) (by omega)).mono ?_
        rintro e u7 ⟨A_q, n_q, c_q, rfl, I_q, F_q, L_q, hb_7⟩
        refine ⟨_, rfl, hb_7, ?_⟩
        clear hs7
        refine al_q (q_move rfl) rfl rfl rfl ?_
        refine al_q (q_extract rfl rfl) rfl rfl rfl ?_
        refine al_q (q_extract rfl rfl) rfl rfl rfl ?_
        refine al_q (q_assign rfl) rfl rfl rfl ?_
        refine al_q (q_assign rfl) rfl rfl rfl ?_
        refine al_end ?_
        refine aq_then ?_
        refine aq_keepL [2, 3, 4, 6, 7, 8, 10, 12, 13] (.cons rfl (.cons rfl (.cons rfl (.cons rfl (.cons rfl (.cons rfl (.cons rfl (.cons rfl (.cons rfl .nil))))))))) ?_
        refine ac_seq ?_
        refine ac_seq ?_
        refine ac_region ?_
        refine al_q (q_move rfl) rfl rfl rfl ?_
        refine al_q (q_move rfl) rfl rfl rfl ?_
        refine al_call Tryz.call13 (.cons rfl (.cons rfl .nil)) rfl rfl (fun w8 hs8 => ?_)
        refine (ints_true A_p A_q n_p c_p n_q c_q _ _ (hs8.isT (.tail _ (.head _)) I_p (fun b o e => Or.inl (F_p b o e))) (hs8.isT (.head _) I_q (fun b o e => Or.inl (F_q b o e))) (by omega) (by omega)).mono ?_
        rintro e u8 ⟨rfl, hb_8⟩
        refine ⟨_, rfl, hb_8, ?_⟩
        clear hs8
        refine al_q (q_not rfl) rfl rfl rfl ?_
        refine al_q (q_move rfl) rfl rfl rfl ?_
        refine al_q (q_move rfl) rfl rfl rfl ?_
        refine al_q (q_move rfl) rfl rfl rfl ?_
        refine al_q (q_same (v' := .bool false) (q_neq rfl rfl) (by simp)) rfl rfl rfl ?_
        refine al_q (q_pickF rfl rfl) rfl rfl rfl ?_
        refine al_end ?_
        refine aq_then ?_
        refine ac_condF rfl ?_
        refine ac_skip ?_
        refine aq_then ?_
        refine ac_seq ?_
        refine ac_seq ?_
        refine ac_region ?_
        refine al_q (q_move rfl) rfl rfl rfl ?_
        refine al_q (q_neq rfl rfl) rfl rfl rfl ?_
        refine al_end ?_
        refine aq_then ?_
        refine ac_cond rfl (fun h3 => ?_) (fun h3 => ?_)
        · skip
          refine ac_seq ?_
          refine ac_region ?_
          refine al_q (q_assign rfl) rfl rfl rfl ?_
          refine al_end ?_
          refine aq_then ?_
          refine ac_ret ?_
          refine aq_thenR ?_
          refine ret1 Tryz.results3 rfl (fun w9 hs => ?_)
          exact ⟨rfl, hs.below⟩
        · have hc0 : cutE7 M S ws = 0 := by simpa using h3
          obtain ⟨hf, hr0, hwl, ha0⟩ := cutE7_ok hc0
          rw [if_pos hr0] at I_a
          have t1 : n_a = M.coils.length := by have := I_a.1; rw [roomL, lst_length] at this; omega
          have n3 := hf.cur.coils.1
          have n4 := hf.trip
          have n5 := hS.cur.coils.1
          have n6 := hS.trip.1
          refine ac_skip ?_
          refine aq_then ?_
          refine ac_seq ?_
          refine ac_region ?_
          refine al_q (q_loadAll (i := 1) rfl rfl Tryz.isAgg29 Tryz.sizeOf29 rfl) rfl rfl rfl ?_
          refine al_q (q_loadAll (i := 0) rfl rfl Tryz.isAgg35 Tryz.sizeOf35 rfl) rfl rfl rfl ?_
          refine al_q (q_move rfl) rfl rfl rfl ?_
          refine al_call Tryz.call14 (.cons rfl (.cons rfl (.cons rfl .nil))) rfl rfl (fun w9 hs9 => ?_)
          refine (capplied_any R M RS S A1 l1 c1 ws _ (hM.below hs9.below) (hS.below hs9.below) (i1.below hs9.below)).mono ?_
          rintro e u9 ⟨A_l, n_l, c_l, rfl, I_l, F_l, L_l, hb_9⟩
          refine ⟨_, rfl, hb_9, ?_⟩
          clear hs9
          refine al_q (q_move rfl) rfl rfl rfl ?_
          refine al_q (q_extract rfl rfl) rfl rfl rfl ?_
          refine al_q (q_extract rfl rfl) rfl rfl rfl ?_
          refine al_q (q_assign rfl) rfl rfl rfl ?_
          refine al_q (q_assign rfl) rfl rfl rfl ?_
          refine al_end ?_
          refine aq_then ?_
          refine ac_seq ?_
          refine ac_seq ?_
          rw [if_pos ha0] at I_l
          have t3 : n_l = M.coils.length := by have := I_l.1; rw [appL, lst_length] at this; omega
          refine ac_region ?_
          refine al_q (q_move rfl) rfl rfl rfl ?_
          refine al_q (q_same (v' := .bool false) (q_neq rfl rfl) (by rw [ha0]; rfl)) rfl rfl rfl ?_
          refine al_q (q_move rfl) rfl rfl rfl ?_
          refine al_q (q_move rfl) rfl rfl rfl ?_
          refine al_q (q_lenS rfl Tryz.runUnderlying30) rfl rfl rfl ?_
          refine al_q (q_move rfl) rfl rfl rfl ?_
          refine al_q (q_lenS rfl Tryz.runUnderlying30) rfl rfl rfl ?_
          refine al_q (q_same (v' := .bool false) (q_neq rfl rfl) (by rw [show n_l = l1 by omega]; simp)) rfl rfl rfl ?_
          refine al_q (q_pickF rfl rfl) rfl rfl rfl ?_
          refine al_end ?_
          refine aq_then ?_
          refine ac_condF rfl ?_
          refine ac_skip ?_
          refine aq_then ?_
          refine ac_seq ?_
          refine ac_seq ?_
          refine ac_region ?_
          refine al_q (q_assign rfl) rfl rfl rfl ?_
          refine al_end ?_
          refine aq_then ?_
          refine ac_block ?_
          refine ac_loop (β := Nat) (fun k => True) (fun k => [(2, (.slice A1 l1 c1)), (3, (.pointer (some ⟨b1, 0, none⟩))), (4, (.pointer (some ⟨b2, 0, none⟩))), (6, (.bool false)), (7, (.slice A_a n_a c_a)), (14, (.slice A_l n_l c_l)), (16, (.int .i64 (k : Int)))]) (fun _ => _) (fun k => [(b2, _), (b1, _)]) (fun k => n_l - k) 0 trivial ⟨rfl, rfl, rfl, rfl, rfl, rfl, rfl, trivial⟩ (fun w9 hs => hs) (fun k hF2 => ?_)
          refine ac_seq ?_
          refine ac_seq ?_
          refine ac_region ?_
          refine al_q (q_move rfl) rfl rfl rfl ?_
          refine al_q (q_move rfl) rfl rfl rfl ?_
          refine al_q (q_lenS rfl Tryz.runUnderlying30) rfl rfl rfl ?_
          refine al_q (q_lss rfl rfl) rfl rfl rfl ?_
          refine al_end ?_
          refine aq_then ?_
          refine ac_cond rfl (fun h4 => ?_) (fun h4 => ?_)
          · have hkn : k < n_l := by have := of_decide_eq_true h4; omega
            obtain ⟨b_a, o_a, hA_a, hlt_a, hget_a⟩ := I_a.2 (by omega)
            have hx_a : (roomL M S)[k]? = some (roomN M S k) := lst_get _ (by omega)
            obtain ⟨b_l, o_l, hA_l, hlt_l, hget_l⟩ := I_l.2 (by omega)
            have hx_l : (appL M S ws)[k]? = some (appA M S ws k) := lst_get _ (by omega)
            obtain ⟨b11, o11, hA1, hlt1, hget1⟩ := hM.coils.2 (by omega)
            have hx1 := cA_get (M := M) (k := k) (by omega)
            obtain ⟨b21, o21, hA2, hlt2, hget2⟩ := hS.cur.coils.2 (by omega)
            have hx2 := iA_get (l := S.C.coils) (k := k) (by omega)
            obtain ⟨b31, o31, hA3, hlt3, hget3⟩ := hS.trip.2 (by omega)
            have hx3 := bA_get (l := S.trip) (k := k) (by omega)
            obtain ⟨b41, o41, hA4, hlt4, hget4⟩ := i1.2 (by omega)
            have hx4 := iA_get (l := ws) (k := k) (by omega)
            have hco := cA_ok hf.cur.check (k := k) (by omega)
            have q1 := hco.cur
            refine ac_skip ?_
            refine aq_then ?_
            refine ac_seq ?_
            refine ac_block ?_
            refine ac_seq ?_
            refine ac_draw 37 (by kernel_rfl) (by kernel_rfl) ?_
            refine ah_take 0 (fun w9 hs => hs) rfl rfl rfl (by kernel_rfl) (by kernel_rfl) (by kernel_rfl) (fun _ _ _ h => h) rfl (q_fieldAddr 5 rfl Tryz.runUnderlying35 rfl Tryz.sizeOf33 (by decide) rfl) ?_
            refine ah_take 1 (fun w9 hs => hs) rfl rfl rfl (by kernel_rfl) (by kernel_rfl) (by kernel_rfl) (fun _ _ _ h => h) rfl (q_load (i := 0) rfl rfl rfl Tryz.isAgg33) ?_
            refine ah_take 2 (fun w9 hs => hs) rfl rfl rfl (by kernel_rfl) (by kernel_rfl) (by kernel_rfl) (fun _ _ _ h => h) rfl (q_move rfl) ?_
            refine ah_take 3 (fun w9 hs => hs) rfl rfl rfl (by kernel_rfl) (by kernel_rfl) (by kernel_rfl) (fun _ _ _ h => h) rfl (q_indexAddrA (i := k) (o31 + k * 1 + 0) hA3 rfl rfl rfl (by omega) Tryz.runUnderlying33 Tryz.sizeOf4 rfl) ?_
            refine ah_take 4 (fun w9 hs => hs) rfl rfl rfl (by kernel_rfl) (by kernel_rfl) (by kernel_rfl) (fun _ _ _ h => h) rfl (q_loadX rfl Tryz.isAgg4 (fun w9 hs => (hs.below.cell (p := ⟨_, _, none⟩) hlt3).trans ((hget3 k _ hx3) 0 _ rfl))) ?_
            refine ah_take 5 (fun w9 hs => hs) rfl rfl rfl (by kernel_rfl) (by kernel_rfl) (by kernel_rfl) (fun _ _ _ h => h) rfl (q_not rfl) ?_
            refine ah_take 6 (fun w9 hs => hs) rfl rfl rfl (by kernel_rfl) (by kernel_rfl) (by kernel_rfl) (fun _ _ _ h => h) rfl (q_move rfl) ?_
            refine ah_split 117 rfl (fun hb2 => ?_) (fun hb2 => ?_)
            · have g117 : bA S.trip k = false := by simpa using hb2
              refine ah_take 7 (fun w9 hs => hs) rfl rfl rfl (by kernel_rfl) (by kernel_rfl) (by kernel_rfl) (fun _ _ _ h => h) rfl (q_fieldAddr 1 rfl Tryz.runUnderlying35 rfl Tryz.sizeOf32 (by decide) rfl) ?_
              refine ah_take 8 (fun w9 hs => hs) rfl rfl rfl (by kernel_rfl) (by kernel_rfl) (by kernel_rfl) (fun _ _ _ h => h) rfl (q_fieldAddr 1 rfl Tryz.runUnderlying32 rfl Tryz.sizeOf30 (by decide) rfl) ?_
              refine ah_take 9 (fun w9 hs => hs) rfl rfl rfl (by kernel_rfl) (by kernel_rfl) (by kernel_rfl) (fun _ _ _ h => h) rfl (q_load (i := 0) rfl rfl rfl Tryz.isAgg30) ?_
              refine ah_take 10 (fun w9 hs => hs) rfl rfl rfl (by kernel_rfl) (by kernel_rfl) (by kernel_rfl) (fun _ _ _ h => h) rfl (q_move rfl) ?_
              refine ah_take 11 (fun w9 hs => hs) rfl rfl rfl (by kernel_rfl) (by kernel_rfl) (by kernel_rfl) (fun _ _ _ h => h) rfl (q_indexAddrA (i := k) (o21 + k * 1 + 0) hA2 rfl rfl rfl (by omega) Tryz.runUnderlying30 Tryz.sizeOf3 rfl) ?_
              refine ah_take 12 (fun w9 hs => hs) rfl rfl rfl (by kernel_rfl) (by kernel_rfl) (by kernel_rfl) (fun _ _ _ h => h) rfl (q_loadX rfl Tryz.isAgg3 (fun w9 hs => (hs.below.cell (p := ⟨_, _, none⟩) hlt2).trans ((hget2 k _ hx2) 0 _ rfl))) ?_
              refine ah_take 13 (fun w9 hs => hs) rfl rfl rfl (by kernel_rfl) (by kernel_rfl) (by kernel_rfl) (fun _ _ _ h => h) rfl (q_fieldAddr 1 rfl Tryz.runUnderlying29 rfl Tryz.sizeOf22 (by decide) rfl) ?_
              refine ah_take 14 (fun w9 hs => hs) rfl rfl rfl (by kernel_rfl) (by kernel_rfl) (by kernel_rfl) (fun _ _ _ h => h) rfl (q_load (i := 1) rfl rfl rfl Tryz.isAgg22) ?_
              refine ah_take 15 (fun w9 hs => hs) rfl rfl rfl (by kernel_rfl) (by kernel_rfl) (by kernel_rfl) (fun _ _ _ h => h) rfl (q_move rfl) ?_
              refine ah_take 16 (fun w9 hs => hs) rfl rfl rfl (by kernel_rfl) (by kernel_rfl) (by kernel_rfl) (fun _ _ _ h => h) rfl (q_indexAddrA (i := k) (o11 + k * 8 + 0) hA1 rfl rfl rfl (by omega) Tryz.runUnderlying22 Tryz.sizeOf49 rfl) ?_
              refine ah_take 17 (fun w9 hs => hs) rfl rfl rfl (by kernel_rfl) (by kernel_rfl) (by kernel_rfl) (fun _ _ _ h => h) rfl (q_fieldAddr (o11 + k * 8 + 4) rfl Tryz.runUnderlying49 rfl Tryz.sizeOf3 (by decide) rfl) ?_
              refine ah_take 18 (fun w9 hs => hs) rfl rfl rfl (by kernel_rfl) (by kernel_rfl) (by kernel_rfl) (fun _ _ _ h => h) rfl (q_loadX rfl Tryz.isAgg3 (fun w9 hs => (hs.below.cell (p := ⟨_, _, none⟩) hlt1).trans ((hget1 k _ hx1) 4 _ rfl))) ?_
              refine ah_take 19 (fun w9 hs => hs) rfl rfl rfl (by kernel_rfl) (by kernel_rfl) (by kernel_rfl) (fun _ _ _ h => h) rfl (q_leq rfl rfl) ?_
              refine ah_take 20 (fun w9 hs => hs) rfl rfl rfl (by kernel_rfl) (by kernel_rfl) (by kernel_rfl) (fun _ _ _ h => h) rfl (q_pickT rfl rfl) ?_
              refine ah_take 21 (fun w9 hs => hs) rfl rfl rfl (by kernel_rfl) (by kernel_rfl) (by kernel_rfl) (fun _ _ _ h => h) rfl (q_move rfl) ?_
              refine ah_split 132 rfl (fun hb3 => ?_) (fun hb3 => ?_)
              · have g132 := of_decide_eq_true hb3
                refine ah_take 22 (fun w9 hs => hs) rfl rfl rfl (by kernel_rfl) (by kernel_rfl) (by kernel_rfl) (fun _ _ _ h => h) rfl (q_fieldAddr 1 rfl Tryz.runUnderlying35 rfl Tryz.sizeOf32 (by decide) rfl) ?_
                refine ah_take 23 (fun w9 hs => hs) rfl rfl rfl (by kernel_rfl) (by kernel_rfl) (by kernel_rfl) (fun _ _ _ h => h) rfl (q_fieldAddr 1 rfl Tryz.runUnderlying32 rfl Tryz.sizeOf30 (by decide) rfl) ?_
                refine ah_take 24 (fun w9 hs => hs) rfl rfl rfl (by kernel_rfl) (by kernel_rfl) (by kernel_rfl) (fun _ _ _ h => h) rfl (q_load (i := 0) rfl rfl rfl Tryz.isAgg30) ?_
                refine ah_take 25 (fun w9 hs => hs) rfl rfl rfl (by kernel_rfl) (by kernel_rfl) (by kernel_rfl) (fun _ _ _ h => h) rfl (q_move rfl) ?_
                refine ah_take 26 (fun w9 hs => hs) rfl rfl rfl (by kernel_rfl) (by kernel_rfl) (by kernel_rfl) (fun _ _ _ h => h) rfl (q_indexAddrA (i := k) (o21 + k * 1 + 0) hA2 rfl rfl rfl (by omega) Tryz.runUnderlying30 Tryz.sizeOf3 rfl) ?_
                refine ah_take 27 (fun w9 hs => hs) rfl rfl rfl (by kernel_rfl) (by kernel_rfl) (by kernel_rfl) (fun _ _ _ h => h) rfl (q_loadX rfl Tryz.isAgg3 (fun w9 hs => (hs.below.cell (p := ⟨_, _, none⟩) hlt2).trans ((hget2 k _ hx2) 0 _ rfl))) ?_
                refine ah_take 28 (fun w9 hs => hs) rfl rfl rfl (by kernel_rfl) (by kernel_rfl) (by kernel_rfl) (fun _ _ _ h => h) rfl (q_fieldAddr 1 rfl Tryz.runUnderlying29 rfl Tryz.sizeOf22 (by decide) rfl) ?_
                refine ah_take 29 (fun w9 hs => hs) rfl rfl rfl (by kernel_rfl) (by kernel_rfl) (by kernel_rfl) (fun _ _ _ h => h) rfl (q_load (i := 1) rfl rfl rfl Tryz.isAgg22) ?_
                refine ah_take 30 (fun w9 hs => hs) rfl rfl rfl (by kernel_rfl) (by kernel_rfl) (by kernel_rfl) (fun _ _ _ h => h) rfl (q_move rfl) ?_
                refine ah_take 31 (fun w9 hs => hs) rfl rfl rfl (by kernel_rfl) (by kernel_rfl) (by kernel_rfl) (fun _ _ _ h => h) rfl (q_indexAddrA (i := k) (o11 + k * 8 + 0) hA1 rfl rfl rfl (by omega) Tryz.runUnderlying22 Tryz.sizeOf49 rfl) ?_
                refine ah_take 32 (fun w9 hs => hs) rfl rfl rfl (by kernel_rfl) (by kernel_rfl) (by kernel_rfl) (fun _ _ _ h => h) rfl (q_fieldAddr (o11 + k * 8 + 4) rfl Tryz.runUnderlying49 rfl Tryz.sizeOf3 (by decide) rfl) ?_
                refine ah_take 33 (fun w9 hs => hs) rfl rfl rfl (by kernel_rfl) (by kernel_rfl) (by kernel_rfl) (fun _ _ _ h => h) rfl (q_loadX rfl Tryz.isAgg3 (fun w9 hs => (hs.below.cell (p := ⟨_, _, none⟩) hlt1).trans ((hget1 k _ hx1) 4 _ rfl))) ?_
                refine ah_take 34 (fun w9 hs => hs) rfl rfl rfl (by kernel_rfl) (by kernel_rfl) (by kernel_rfl) (fun _ _ _ h => h) rfl (q_neg rfl (by omega)) ?_
                refine ah_take 35 (fun w9 hs => hs) rfl rfl rfl (by kernel_rfl) (by kernel_rfl) (by kernel_rfl) (fun _ _ _ h => h) rfl (q_geq rfl rfl) ?_
                refine ah_take 36 (fun w9 hs => hs) rfl rfl rfl (by kernel_rfl) (by kernel_rfl) (by kernel_rfl) (fun _ _ _ h => h) rfl (q_pickT rfl rfl) ?_
                refine ah_one 37 rfl (by kernel_rfl) (fun hok1 hcl1 => ?_)
                refine al_q (q_assign rfl) rfl rfl rfl ?_
                refine al_end (ah_last (by kernel_rfl) ?_)
                refine aq_then ?_
                refine aq_keepL [2, 3, 4, 6, 7, 14, 16, 17, 105, 106, 107, 108, 111, 112, 113, 114, 115, 116, 117, 118, 119, 120, 121, 122, 123, 124, 125, 126, 127, 128, 129, 130, 131, 132, 133, 134, 135, 136, 137, 138, 139, 140, 141, 142, 143, 144, 145, 146, 147] (.cons rfl (.cons rfl (.cons rfl (.cons rfl (.cons rfl (.cons rfl (.cons rfl (.cons rfl (.cons rfl (.cons rfl (.cons rfl (.cons rfl (.cons rfl (.cons rfl (.cons rfl (.cons rfl (.cons rfl (.cons rfl (.cons rfl (.cons rfl (.cons rfl (.cons rfl (.cons rfl (.cons rfl (.cons rfl (.cons rfl (.cons rfl (.cons rfl (.cons rfl (.cons rfl (.cons rfl (.cons rfl (.cons rfl (.cons rfl (.cons rfl (.cons rfl (.cons rfl (.cons rfl (.cons rfl (.cons rfl (.cons rfl (.cons rfl (.cons rfl (.cons rfl (.cons rfl (.cons rfl (.cons rfl (.cons rfl (.cons rfl .nil))))))))))))))))))))))))))))))))))))))))))))))))) ?_
                refine ac_seq ?_
                refine ac_draw 22 (by kernel_rfl) (by kernel_rfl) ?_
                refine ah_take 0 (fun w9 hs => hs) rfl rfl rfl (by kernel_rfl) (by kernel_rfl) (by kernel_rfl) (fun _ _ _ h => h) rfl (q_move rfl) ?_
                refine ah_take 1 (fun w9 hs => hs) rfl rfl rfl (by kernel_rfl) (by kernel_rfl) (by kernel_rfl) (fun _ _ _ h => h) rfl (q_move rfl) ?_
                refine ah_split 149 rfl (fun hb4 => ?_) (fun hb4 => ?_)
                · have g149 := of_decide_eq_true hb4
                  refine ah_take 2 (fun w9 hs => hs) rfl rfl rfl (by kernel_rfl) (by kernel_rfl) (by kernel_rfl) (fun _ _ _ h => h) rfl (q_move rfl) ?_
                  refine ah_take 3 (fun w9 hs => hs) rfl rfl rfl (by kernel_rfl) (by kernel_rfl) (by kernel_rfl) (fun _ _ _ h => h) rfl (q_move rfl) ?_
                  refine ah_take 4 (fun w9 hs => hs) rfl rfl rfl (by kernel_rfl) (by kernel_rfl) (by kernel_rfl) (fun _ _ _ h => h) rfl (q_indexAddrA (i := k) (o_a + k * 2 + 0) hA_a rfl rfl rfl (by omega) Tryz.runUnderlying39 Tryz.sizeOf44 rfl) ?_
                  refine ah_take 5 (fun w9 hs => hs) rfl rfl rfl (by kernel_rfl) (by kernel_rfl) (by kernel_rfl) (fun _ _ _ h => h) rfl (q_loadXs (SpanD.cells (roomN M S k)) rfl Tryz.isAgg44 Tryz.sizeOf44 (fun w9 hs j9 v9 h9 => by rw [addr_add]; exact (hs.cellOf (.tail _ (.tail _ (.tail _ (.tail _ (.tail _ (.head _)))))) (F_a _ _ hA_a) hlt_a (hget_a k _ hx_a j9 v9 h9))) rfl) ?_
                  refine ah_take 6 (fun w9 hs => hs) rfl rfl rfl (by kernel_rfl) (by kernel_rfl) (by kernel_rfl) (fun _ _ _ h => h) rfl (q_move rfl) ?_
                  refine ah_take 7 (fun w9 hs => hs) rfl rfl rfl (by kernel_rfl) (by kernel_rfl) (by kernel_rfl) (fun _ _ _ h => h) rfl (q_move rfl) ?_
                  refine ah_take 8 (fun w9 hs => hs) rfl rfl rfl (by kernel_rfl) (by kernel_rfl) (by kernel_rfl) (fun _ _ _ h => h) rfl (q_indexAddrA (i := k) (o41 + k * 1 + 0) hA4 rfl rfl rfl (by omega) Tryz.runUnderlying30 Tryz.sizeOf3 rfl) ?_
                  refine ah_take 9 (fun w9 hs => hs) rfl rfl rfl (by kernel_rfl) (by kernel_rfl) (by kernel_rfl) (fun _ _ _ h => h) rfl (q_loadX rfl Tryz.isAgg3 (fun w9 hs => (hs.below.cell (p := ⟨_, _, none⟩) hlt4).trans ((hget4 k _ hx4) 0 _ rfl))) ?_
                  refine ah_one 10 rfl (by kernel_rfl) (fun hok2 hcl2 => ?_)
                  refine al_call Tryz.call15 (.cons rfl (.cons rfl .nil)) rfl rfl (fun w10 hs10 => ?_)
                  refine (rcontains_any (roomN M S k).lo (roomN M S k).hi (iA ws k) _).mono ?_
                  rintro e u10 ⟨rfl, hb_10⟩
                  refine ⟨_, rfl, hb_10, ?_⟩
                  clear hs10
                  refine al_end (ah_back hok2 hcl2 (fun w9 hs => (hs.fewer 1 rfl)) ?_)
                  refine ah_take 11 (fun w9 hs => (hs.fewer 1 rfl)) rfl rfl rfl (by kernel_rfl) (by kernel_rfl) (by kernel_rfl) (fun _ _ _ h => h) rfl (q_pickT rfl rfl) ?_
                  refine ah_take 12 (fun w9 hs => (hs.fewer 1 rfl)) rfl rfl rfl (by kernel_rfl) (by kernel_rfl) (by kernel_rfl) (fun _ _ _ h => h) rfl (q_move rfl) ?_
                  refine ah_split 160 rfl (fun hb5 => ?_) (fun hb5 => ?_)
                  · have happ := app_room hf (ws := ws) (k := k) (by omega) g117 g132 g149 hb5
                    refine ah_take 13 (fun w9 hs => (hs.fewer 1 rfl)) rfl rfl rfl (by kernel_rfl) (by kernel_rfl) (by kernel_rfl) (fun _ _ _ h => h) rfl (q_move rfl) ?_
                    refine ah_take 14 (fun w9 hs => (hs.fewer 1 rfl)) rfl rfl rfl (by kernel_rfl) (by kernel_rfl) (by kernel_rfl) (fun _ _ _ h => h) rfl (q_move rfl) ?_
                    refine ah_take 15 (fun w9 hs => (hs.fewer 1 rfl)) rfl rfl rfl (by kernel_rfl) (by kernel_rfl) (by kernel_rfl) (fun _ _ _ h => h) rfl (q_indexAddrA (i := k) (o_l + k * 1 + 0) hA_l rfl rfl rfl (by omega) Tryz.runUnderlying30 Tryz.sizeOf3 rfl) ?_
                    refine ah_take 16 (fun w9 hs => (hs.fewer 1 rfl)) rfl rfl rfl (by kernel_rfl) (by kernel_rfl) (by kernel_rfl) (fun _ _ _ h => h) rfl (q_loadX rfl Tryz.isAgg3 (fun w9 hs => (hs.cellOf (.head _) (F_l _ _ hA_l) hlt_l (hget_l k _ hx_l 0 _ rfl)))) ?_
                    refine ah_take 17 (fun w9 hs => (hs.fewer 1 rfl)) rfl rfl rfl (by kernel_rfl) (by kernel_rfl) (by kernel_rfl) (fun _ _ _ h => h) rfl (q_move rfl) ?_
                    refine ah_take 18 (fun w9 hs => (hs.fewer 1 rfl)) rfl rfl rfl (by kernel_rfl) (by kernel_rfl) (by kernel_rfl) (fun _ _ _ h => h) rfl (q_move rfl) ?_
                    refine ah_take 19 (fun w9 hs => (hs.fewer 1 rfl)) rfl rfl rfl (by kernel_rfl) (by kernel_rfl) (by kernel_rfl) (fun _ _ _ h => h) rfl (q_indexAddrA (i := k) (o41 + k * 1 + 0) hA4 rfl rfl rfl (by omega) Tryz.runUnderlying30 Tryz.sizeOf3 rfl) ?_
                    refine ah_take 20 (fun w9 hs => (hs.fewer 1 rfl)) rfl rfl rfl (by kernel_rfl) (by kernel_rfl) (by kernel_rfl) (fun _ _ _ h => h) rfl (q_loadX rfl Tryz.isAgg3 (fun w9 hs => (hs.below.cell (p := ⟨_, _, none⟩) hlt4).trans ((hget4 k _ hx4) 0 _ rfl))) ?_
                    refine ah_take 21 (fun w9 hs => (hs.fewer 1 rfl)) rfl rfl rfl (by kernel_rfl) (by kernel_rfl) (by kernel_rfl) (fun _ _ _ h => h) rfl (q_same (v' := .bool false) (q_neq rfl rfl) (by rw [happ]; simp)) ?_
                    refine ah_take 22 (fun w9 hs => (hs.fewer 1 rfl)) rfl rfl rfl (by kernel_rfl) (by kernel_rfl) (by kernel_rfl) (fun _ _ _ h => h) rfl (q_pickT rfl rfl) ?_
                    refine ah_done (by kernel_rfl) ?_
                    refine aq_then ?_
                    refine ac_condF rfl ?_
                    refine ac_skip ?_
                    refine aq_inN ?_
                    refine aq_then ?_
                    refine ac_region ?_
                    refine al_q (q_move rfl) rfl rfl rfl ?_
                    refine al_q (q_add rfl rfl (by omega)) rfl rfl rfl ?_
                    refine al_q (q_assign rfl) rfl rfl rfl ?_
                    refine al_end ?_
                    refine aq_then ?_
                    skip
                    refine aq_round (k + 1) (by omega) trivial ⟨rfl, rfl, rfl, rfl, rfl, rfl, rfl, trivial⟩ (fun w9 hs => (hs.fewer 1 rfl))
                  · skip
                    refine ah_skip 13 (fun w9 hs => (hs.fewer 1 rfl)) rfl rfl rfl (by kernel_rfl) (by kernel_rfl) (by kernel_rfl) (fun _ _ _ h => h) rfl ?_
                    refine ah_skip 14 (fun w9 hs => (hs.fewer 1 rfl)) rfl rfl rfl (by kernel_rfl) (by kernel_rfl) (by kernel_rfl) (fun _ _ _ h => h) rfl ?_
                    refine ah_skip 15 (fun w9 hs => (hs.fewer 1 rfl)) rfl rfl rfl (by kernel_rfl) (by kernel_rfl) (by kernel_rfl) (fun _ _ _ h => h) rfl ?_
                    refine ah_skip 16 (fun w9 hs => (hs.fewer 1 rfl)) rfl rfl rfl (by kernel_rfl) (by kernel_rfl) (by kernel_rfl) (fun _ _ _ h => h) rfl ?_
                    refine ah_skip 17 (fun w9 hs => (hs.fewer 1 rfl)) rfl rfl rfl (by kernel_rfl) (by kernel_rfl) (by kernel_rfl) (fun _ _ _ h => h) rfl ?_
                    refine ah_skip 18 (fun w9 hs => (hs.fewer 1 rfl)) rfl rfl rfl (by kernel_rfl) (by kernel_rfl) (by kernel_rfl) (fun _ _ _ h => h) rfl ?_
                    refine ah_skip 19 (fun w9 hs => (hs.fewer 1 rfl)) rfl rfl rfl (by kernel_rfl) (by kernel_rfl) (by kernel_rfl) (fun _ _ _ h => h) rfl ?_
                    refine ah_skip 20 (fun w9 hs => (hs.fewer 1 rfl)) rfl rfl rfl (by kernel_rfl) (by kernel_rfl) (by kernel_rfl) (fun _ _ _ h => h) rfl ?_
                    refine ah_skip 21 (fun w9 hs => (hs.fewer 1 rfl)) rfl rfl rfl (by kernel_rfl) (by kernel_rfl) (by kernel_rfl) (fun _ _ _ h => h) rfl ?_
                    refine ah_take 22 (fun w9 hs => (hs.fewer 1 rfl)) rfl rfl rfl (by kernel_rfl) (by kernel_rfl) (by kernel_rfl) (fun _ _ _ h => h) rfl (q_pickF rfl rfl) ?_
                    refine ah_done (by kernel_rfl) ?_
                    refine aq_then ?_
                    refine ac_condF rfl ?_
                    refine ac_skip ?_
                    refine aq_inN ?_
                    refine aq_then ?_
                    refine ac_region ?_
                    refine al_q (q_move rfl) rfl rfl rfl ?_
                    refine al_q (q_add rfl rfl (by omega)) rfl rfl rfl ?_
                    refine al_q (q_assign rfl) rfl rfl rfl ?_
                    refine al_end ?_
                    refine aq_then ?_
                    skip
                    refine aq_round (k + 1) (by omega) trivial ⟨rfl, rfl, rfl, rfl, rfl, rfl, rfl, trivial⟩ (fun w9 hs => (hs.fewer 1 rfl))
                · skip
                  refine ah_skip 2 (fun w9 hs => hs) rfl rfl rfl (by kernel_rfl) (by kernel_rfl) (by kernel_rfl) (fun _ _ _ h => h) rfl ?_
                  refine ah_skip 3 (fun w9 hs => hs) rfl rfl rfl (by kernel_rfl) (by kernel_rfl) (by kernel_rfl) (fun _ _ _ h => h) rfl ?_
                  refine ah_skip 4 (fun w9 hs => hs) rfl rfl rfl (by kernel_rfl) (by kernel_rfl) (by kernel_rfl) (fun _ _ _ h => h) rfl ?_
                  refine ah_skip 5 (fun w9 hs => hs) rfl rfl rfl (by kernel_rfl) (by kernel_rfl) (by kernel_rfl) (fun _ _ _ h => h) rfl ?_
                  refine ah_skip 6 (fun w9 hs => hs) rfl rfl rfl (by kernel_rfl) (by kernel_rfl) (by kernel_rfl) (fun _ _ _ h => h) rfl ?_
                  refine ah_skip 7 (fun w9 hs => hs) rfl rfl rfl (by kernel_rfl) (by kernel_rfl) (by kernel_rfl) (fun _ _ _ h => h) rfl ?_
                  refine ah_skip 8 (fun w9 hs => hs) rfl rfl rfl (by kernel_rfl) (by kernel_rfl) (by kernel_rfl) (fun _ _ _ h => h) rfl ?_
                  refine ah_skip 9 (fun w9 hs => hs) rfl rfl rfl (by kernel_rfl) (by kernel_rfl) (by kernel_rfl) (fun _ _ _ h => h) rfl ?_
                  refine ah_skip 10 (fun w9 hs => hs) rfl rfl rfl (by kernel_rfl) (by kernel_rfl) (by kernel_rfl) (fun _ _ _ h => h) rfl ?_
                  refine ah_take 11 (fun w9 hs => hs) rfl rfl rfl (by kernel_rfl) (by kernel_rfl) (by kernel_rfl) (fun _ _ _ h => h) rfl (q_pickF rfl rfl) ?_
                  refine ah_take 12 (fun w9 hs => hs) rfl rfl rfl (by kernel_rfl) (by kernel_rfl) (by kernel_rfl) (fun _ _ _ h => h) rfl (q_move rfl) ?_
                  refine ah_skip 13 (fun w9 hs => hs) rfl rfl rfl (by kernel_rfl) (by kernel_rfl) (by kernel_rfl) (fun _ _ _ h => h) rfl ?_
                  refine ah_skip 14 (fun w9 hs => hs) rfl rfl rfl (by kernel_rfl) (by kernel_rfl) (by kernel_rfl) (fun _ _ _ h => h) rfl ?_
                  refine ah_skip 15 (fun w9 hs => hs) rfl rfl rfl (by kernel_rfl) (by kernel_rfl) (by kernel_rfl) (fun _ _ _ h => h) rfl ?_
                  refine ah_skip 16 (fun w9 hs => hs) rfl rfl rfl (by kernel_rfl) (by kernel_rfl) (by kernel_rfl) (fun _ _ _ h => h) rfl ?_
                  refine ah_skip 17 (fun w9 hs => hs) rfl rfl rfl (by kernel_rfl) (by kernel_rfl) (by kernel_rfl) (fun _ _ _ h => h) rfl ?_
                  refine ah_skip 18 (fun w9 hs => hs) rfl rfl rfl (by kernel_rfl) (by kernel_rfl) (by kernel_rfl) (fun _ _ _ h => h) rfl ?_
                  refine ah_skip 19 (fun w9 hs => hs) rfl rfl rfl (by kernel_rfl) (by kernel_rfl) (by kernel_rfl) (fun _ _ _ h => h) rfl ?_
                  refine ah_skip 20 (fun w9 hs => hs) rfl rfl rfl (by kernel_rfl) (by kernel_rfl) (by kernel_rfl) (fun _ _ _ h => h) rfl ?_
                  refine ah_skip 21 (fun w9 hs => hs) rfl rfl rfl (by kernel_rfl) (by kernel_rfl) (by kernel_rfl) (fun _ _ _ h => h) rfl ?_
                  refine ah_take 22 (fun w9 hs => hs) rfl rfl rfl (by kernel_rfl) (by kernel_rfl) (by kernel_rfl) (fun _ _ _ h => h) rfl (q_pickF rfl rfl) ?_
                  refine ah_done (by kernel_rfl) ?_
                  refine aq_then ?_
                  refine ac_condF rfl ?_
                  refine ac_skip ?_
                  refine aq_inN ?_
                  refine aq_then ?_
                  refine ac_region ?_
                  refine al_q (q_move rfl) rfl rfl rfl ?_
                  refine al_q (q_add rfl rfl (by omega)) rfl rfl rfl ?_
                  refine al_q (q_assign rfl) rfl rfl rfl ?_
                  refine al_end ?_
                  refine aq_then ?_
                  skip
                  refine aq_round (k + 1) (by omega) trivial ⟨rfl, rfl, rfl, rfl, rfl, rfl, rfl, trivial⟩ (fun w9 hs => hs)
              · skip
                refine ah_skip 22 (fun w9 hs => hs) rfl rfl rfl (by kernel_rfl) (by kernel_rfl) (by kernel_rfl) (fun _ _ _ h => h) rfl ?_
                refine ah_skip 23 (fun w9 hs => hs) rfl rfl rfl (by kernel_rfl) (by kernel_rfl) (by kernel_rfl) (fun _ _ _ h => h) rfl ?_
                refine ah_skip 24 (fun w9 hs => hs) rfl rfl rfl (by kernel_rfl) (by kernel_rfl) (by kernel_rfl) (fun _ _ _ h => h) rfl ?_
                refine ah_skip 25 (fun w9 hs => hs) rfl rfl rfl (by kernel_rfl) (by kernel_rfl) (by kernel_rfl) (fun _ _ _ h => h) rfl ?_
                refine ah_skip 26 (fun w9 hs => hs) rfl rfl rfl (by kernel_rfl) (by kernel_rfl) (by kernel_rfl) (fun _ _ _ h => h) rfl ?_
                refine ah_skip 27 (fun w9 hs => hs) rfl rfl rfl (by kernel_rfl) (by kernel_rfl) (by kernel_rfl) (fun _ _ _ h => h) rfl ?_
                refine ah_skip 28 (fun w9 hs => hs) rfl rfl rfl (by kernel_rfl) (by kernel_rfl) (by kernel_rfl) (fun _ _ _ h => h) rfl ?_
                refine ah_skip 29 (fun w9 hs => hs) rfl rfl rfl (by kernel_rfl) (by kernel_rfl) (by kernel_rfl) (fun _ _ _ h => h) rfl ?_
                refine ah_skip 30 (fun w9 hs => hs) rfl rfl rfl (by kernel_rfl) (by kernel_rfl) (by kernel_rfl) (fun _ _ _ h => h) rfl ?_
                refine ah_skip 31 (fun w9 hs => hs) rfl rfl rfl (by kernel_rfl) (by kernel_rfl) (by kernel_rfl) (fun _ _ _ h => h) rfl ?_
                refine ah_skip 32 (fun w9 hs => hs) rfl rfl rfl (by kernel_rfl) (by kernel_rfl) (by kernel_rfl) (fun _ _ _ h => h) rfl ?_
                refine ah_skip 33 (fun w9 hs => hs) rfl rfl rfl (by kernel_rfl) (by kernel_rfl) (by kernel_rfl) (fun _ _ _ h => h) rfl ?_
                refine ah_skip 34 (fun w9 hs => hs) rfl rfl rfl (by kernel_rfl) (by kernel_rfl) (by kernel_rfl) (fun _ _ _ h => h) rfl ?_
                refine ah_skip 35 (fun w9 hs => hs) rfl rfl rfl (by kernel_rfl) (by kernel_rfl) (by kernel_rfl) (fun _ _ _ h => h) rfl ?_
                refine ah_take 36 (fun w9 hs => hs) rfl rfl rfl (by kernel_rfl) (by kernel_rfl) (by kernel_rfl) (fun _ _ _ h => h) rfl (q_pickF rfl rfl) ?_
                refine ah_one 37 rfl (by kernel_rfl) (fun hok3 hcl3 => ?_)
                refine al_q (q_assign rfl) rfl rfl rfl ?_
                refine al_end (ah_last (by kernel_rfl) ?_)
                refine aq_then ?_
                refine ac_seq ?_
                refine ac_draw 22 (by kernel_rfl) (by kernel_rfl) ?_
                refine ah_take 0 (fun w9 hs => hs) rfl rfl rfl (by kernel_rfl) (by kernel_rfl) (by kernel_rfl) (fun _ _ _ h => h) rfl (q_move rfl) ?_
                refine ah_take 1 (fun w9 hs => hs) rfl rfl rfl (by kernel_rfl) (by kernel_rfl) (by kernel_rfl) (fun _ _ _ h => h) rfl (q_move rfl) ?_
                refine ah_skip 2 (fun w9 hs => hs) rfl rfl rfl (by kernel_rfl) (by kernel_rfl) (by kernel_rfl) (fun _ _ _ h => h) rfl ?_
                refine ah_skip 3 (fun w9 hs => hs) rfl rfl rfl (by kernel_rfl) (by kernel_rfl) (by kernel_rfl) (fun _ _ _ h => h) rfl ?_
                refine ah_skip 4 (fun w9 hs => hs) rfl rfl rfl (by kernel_rfl) (by kernel_rfl) (by kernel_rfl) (fun _ _ _ h => h) rfl ?_
                refine ah_skip 5 (fun w9 hs => hs) rfl rfl rfl (by kernel_rfl) (by kernel_rfl) (by kernel_rfl) (fun _ _ _ h => h) rfl ?_
                refine ah_skip 6 (fun w9 hs => hs) rfl rfl rfl (by kernel_rfl) (by kernel_rfl) (by kernel_rfl) (fun _ _ _ h => h) rfl ?_
                refine ah_skip 7 (fun w9 hs => hs) rfl rfl rfl (by kernel_rfl) (by kernel_rfl) (by kernel_rfl) (fun _ _ _ h => h) rfl ?_
                refine ah_skip 8 (fun w9 hs => hs) rfl rfl rfl (by kernel_rfl) (by kernel_rfl) (by kernel_rfl) (fun _ _ _ h => h) rfl ?_
                refine ah_skip 9 (fun w9 hs => hs) rfl rfl rfl (by kernel_rfl) (by kernel_rfl) (by kernel_rfl) (fun _ _ _ h => h) rfl ?_
                refine ah_skip 10 (fun w9 hs => hs) rfl rfl rfl (by kernel_rfl) (by kernel_rfl) (by kernel_rfl) (fun _ _ _ h => h) rfl ?_
                refine ah_take 11 (fun w9 hs => hs) rfl rfl rfl (by kernel_rfl) (by kernel_rfl) (by kernel_rfl) (fun _ _ _ h => h) rfl (q_pickF rfl rfl) ?_
                refine ah_take 12 (fun w9 hs => hs) rfl rfl rfl (by kernel_rfl) (by kernel_rfl) (by kernel_rfl) (fun _ _ _ h => h) rfl (q_move rfl) ?_
                refine ah_skip 13 (fun w9 hs => hs) rfl rfl rfl (by kernel_rfl) (by kernel_rfl) (by kernel_rfl) (fun _ _ _ h => h) rfl ?_
                refine ah_skip 14 (fun w9 hs => hs) rfl rfl rfl (by kernel_rfl) (by kernel_rfl) (by kernel_rfl) (fun _ _ _ h => h) rfl ?_
                refine ah_skip 15 (fun w9 hs => hs) rfl rfl rfl (by kernel_rfl) (by kernel_rfl) (by kernel_rfl) (fun _ _ _ h => h) rfl ?_
                refine ah_skip 16 (fun w9 hs => hs) rfl rfl rfl (by kernel_rfl) (by kernel_rfl) (by kernel_rfl) (fun _ _ _ h => h) rfl ?_
                refine ah_skip 17 (fun w9 hs => hs) rfl rfl rfl (by kernel_rfl) (by kernel_rfl) (by kernel_rfl) (fun _ _ _ h => h) rfl ?_
                refine ah_skip 18 (fun w9 hs => hs) rfl rfl rfl (by kernel_rfl) (by kernel_rfl) (by kernel_rfl) (fun _ _ _ h => h) rfl ?_
                refine ah_skip 19 (fun w9 hs => hs) rfl rfl rfl (by kernel_rfl) (by kernel_rfl) (by kernel_rfl) (fun _ _ _ h => h) rfl ?_
                refine ah_skip 20 (fun w9 hs => hs) rfl rfl rfl (by kernel_rfl) (by kernel_rfl) (by kernel_rfl) (fun _ _ _ h => h) rfl ?_
                refine ah_skip 21 (fun w9 hs => hs) rfl rfl rfl (by kernel_rfl) (by kernel_rfl) (by kernel_rfl) (fun _ _ _ h => h) rfl ?_
                refine ah_take 22 (fun w9 hs => hs) rfl rfl rfl (by kernel_rfl) (by kernel_rfl) (by kernel_rfl) (fun _ _ _ h => h) rfl (q_pickF rfl rfl) ?_
                refine ah_done (by kernel_rfl) ?_
                refine aq_then ?_
                refine ac_condF rfl ?_
                refine ac_skip ?_
                refine aq_inN ?_
                refine aq_then ?_
                refine ac_region ?_
                refine al_q (q_move rfl) rfl rfl rfl ?_
                refine al_q (q_add rfl rfl (by omega)) rfl rfl rfl ?_
                refine al_q (q_assign rfl) rfl rfl rfl ?_
                refine al_end ?_
                refine aq_then ?_
                skip
                refine aq_round (k + 1) (by omega) trivial ⟨rfl, rfl, rfl, rfl, rfl, rfl, rfl, trivial⟩ (fun w9 hs => hs)
            · skip
              refine ah_skip 7 (fun w9 hs => hs) rfl rfl rfl (by kernel_rfl) (by kernel_rfl) (by kernel_rfl) (fun _ _ _ h => h) rfl ?_
              refine ah_skip 8 (fun w9 hs => hs) rfl rfl rfl (by kernel_rfl) (by kernel_rfl) (by kernel_rfl) (fun _ _ _ h => h) rfl ?_
              refine ah_skip 9 (fun w9 hs => hs) rfl rfl rfl (by kernel_rfl) (by kernel_rfl) (by kernel_rfl) (fun _ _ _ h => h) rfl ?_
              refine ah_skip 10 (fun w9 hs => hs) rfl rfl rfl (by kernel_rfl) (by kernel_rfl) (by kernel_rfl) (fun _ _ _ h => h) rfl ?_
              refine ah_skip 11 (fun w9 hs => hs) rfl rfl rfl (by kernel_rfl) (by kernel_rfl) (by kernel_rfl) (fun _ _ _ h => h) rfl ?_
              refine ah_skip 12 (fun w9 hs => hs) rfl rfl rfl (by kernel_rfl) (by kernel_rfl) (by kernel_rfl) (fun _ _ _ h => h) rfl ?_
              refine ah_skip 13 (fun w9 hs => hs) rfl rfl rfl (by kernel_rfl) (by kernel_rfl) (by kernel_rfl) (fun _ _ _ h => h) rfl ?_
              refine ah_skip 14 (fun w9 hs => hs) rfl rfl rfl (by kernel_rfl) (by kernel_rfl) (by kernel_rfl) (fun _ _ _ h => h) rfl ?_
              refine ah_skip 15 (fun w9 hs => hs) rfl rfl rfl (by kernel_rfl) (by kernel_rfl) (by kernel_rfl) (fun _ _ _ h => h) rfl ?_
              refine ah_skip 16 (fun w9 hs => hs) rfl rfl rfl (by kernel_rfl) (by kernel_rfl) (by kernel_rfl) (fun _ _ _ h => h) rfl ?_
              refine ah_skip 17 (fun w9 hs => hs) rfl rfl rfl (by kernel_rfl) (by kernel_rfl) (by kernel_rfl) (fun _ _ _ h => h) rfl ?_
              refine ah_skip 18 (fun w9 hs => hs) rfl rfl rfl (by kernel_rfl) (by kernel_rfl) (by kernel_rfl) (fun _ _ _ h => h) rfl ?_
              refine ah_skip 19 (fun w9 hs => hs) rfl rfl rfl (by kernel_rfl) (by kernel_rfl) (by kernel_rfl) (fun _ _ _ h => h) rfl ?_
              refine ah_take 20 (fun w9 hs => hs) rfl rfl rfl (by kernel_rfl) (by kernel_rfl) (by kernel_rfl) (fun _ _ _ h => h) rfl (q_pickF rfl rfl) ?_
              refine ah_take 21 (fun w9 hs => hs) rfl rfl rfl (by kernel_rfl) (by kernel_rfl) (by kernel_rfl) (fun _ _ _ h => h) rfl (q_move rfl) ?_
              refine ah_skip 22 (fun w9 hs => hs) rfl rfl rfl (by kernel_rfl) (by kernel_rfl) (by kernel_rfl) (fun _ _ _ h => h) rfl ?_
              refine ah_skip 23 (fun w9 hs => hs) rfl rfl rfl (by kernel_rfl) (by kernel_rfl) (by kernel_rfl) (fun _ _ _ h => h) rfl ?_
              refine ah_skip 24 (fun w9 hs => hs) rfl rfl rfl (by kernel_rfl) (by kernel_rfl) (by kernel_rfl) (fun _ _ _ h => h) rfl ?_
              refine ah_skip 25 (fun w9 hs => hs) rfl rfl rfl (by kernel_rfl) (by kernel_rfl) (by kernel_rfl) (fun _ _ _ h => h) rfl ?_
              refine ah_skip 26 (fun w9 hs => hs) rfl rfl rfl (by kernel_rfl) (by kernel_rfl) (by kernel_rfl) (fun _ _ _ h => h) rfl ?_
              refine ah_skip 27 (fun w9 hs => hs) rfl rfl rfl (by kernel_rfl) (by kernel_rfl) (by kernel_rfl) (fun _ _ _ h => h) rfl ?_
              refine ah_skip 28 (fun w9 hs => hs) rfl rfl rfl (by kernel_rfl) (by kernel_rfl) (by kernel_rfl) (fun _ _ _ h => h) rfl ?_
              refine ah_skip 29 (fun w9 hs => hs) rfl rfl rfl (by kernel_rfl) (by kernel_rfl) (by kernel_rfl) (fun _ _ _ h => h) rfl ?_
              refine ah_skip 30 (fun w9 hs => hs) rfl rfl rfl (by kernel_rfl) (by kernel_rfl) (by kernel_rfl) (fun _ _ _ h => h) rfl ?_
              refine ah_skip 31 (fun w9 hs => hs) rfl rfl rfl (by kernel_rfl) (by kernel_rfl) (by kernel_rfl) (fun _ _ _ h => h) rfl ?_
              refine ah_skip 32 (fun w9 hs => hs) rfl rfl rfl (by kernel_rfl) (by kernel_rfl) (by kernel_rfl) (fun _ _ _ h => h) rfl ?_
              refine ah_skip 33 (fun w9 hs => hs) rfl rfl rfl (by kernel_rfl) (by kernel_rfl) (by kernel_rfl) (fun _ _ _ h => h) rfl ?_
              refine ah_skip 34 (fun w9 hs => hs) rfl rfl rfl (by kernel_rfl) (by kernel_rfl) (by kernel_rfl) (fun _ _ _ h => h) rfl ?_
              refine ah_skip 35 (fun w9 hs => hs) rfl rfl rfl (by kernel_rfl) (by kernel_rfl) (by kernel_rfl) (fun _ _ _ h => h) rfl ?_
              refine ah_take 36 (fun w9 hs => hs) rfl rfl rfl (by kernel_rfl) (by kernel_rfl) (by kernel_rfl) (fun _ _ _ h => h) rfl (q_pickF rfl rfl) ?_
              refine ah_one 37 rfl (by kernel_rfl) (fun hok4 hcl4 => ?_)
              refine al_q (q_assign rfl) rfl rfl rfl ?_
              refine al_end (ah_last (by kernel_rfl) ?_)
              refine aq_then ?_
              refine ac_seq ?_
              refine ac_draw 22 (by kernel_rfl) (by kernel_rfl) ?_
              refine ah_take 0 (fun w9 hs => hs) rfl rfl rfl (by kernel_rfl) (by kernel_rfl) (by kernel_rfl) (fun _ _ _ h => h) rfl (q_move rfl) ?_
              refine ah_take 1 (fun w9 hs => hs) rfl rfl rfl (by kernel_rfl) (by kernel_rfl) (by kernel_rfl) (fun _ _ _ h => h) rfl (q_move rfl) ?_
              refine ah_skip 2 (fun w9 hs => hs) rfl rfl rfl (by kernel_rfl) (by kernel_rfl) (by kernel_rfl) (fun _ _ _ h => h) rfl ?_
              refine ah_skip 3 (fun w9 hs => hs) rfl rfl rfl (by kernel_rfl) (by kernel_rfl) (by kernel_rfl) (fun _ _ _ h => h) rfl ?_
              refine ah_skip 4 (fun w9 hs => hs) rfl rfl rfl (by kernel_rfl) (by kernel_rfl) (by kernel_rfl) (fun _ _ _ h => h) rfl ?_
              refine ah_skip 5 (fun w9 hs => hs) rfl rfl rfl (by kernel_rfl) (by kernel_rfl) (by kernel_rfl) (fun _ _ _ h => h) rfl ?_
              refine ah_skip 6 (fun w9 hs => hs) rfl rfl rfl (by kernel_rfl) (by kernel_rfl) (by kernel_rfl) (fun _ _ _ h => h) rfl ?_
              refine ah_skip 7 (fun w9 hs => hs) rfl rfl rfl (by kernel_rfl) (by kernel_rfl) (by kernel_rfl) (fun _ _ _ h => h) rfl ?_
              refine ah_skip 8 (fun w9 hs => hs) rfl rfl rfl (by kernel_rfl) (by kernel_rfl) (by kernel_rfl) (fun _ _ _ h => h) rfl ?_
              refine ah_skip 9 (fun w9 hs => hs) rfl rfl rfl (by kernel_rfl) (by kernel_rfl) (by kernel_rfl) (fun _ _ _ h => h) rfl ?_
              refine ah_skip 10 (fun w9 hs => hs) rfl rfl rfl (by kernel_rfl) (by kernel_rfl) (by kernel_rfl) (fun _ _ _ h => h) rfl ?_
              refine ah_take 11 (fun w9 hs => hs) rfl rfl rfl (by kernel_rfl) (by kernel_rfl) (by kernel_rfl) (fun _ _ _ h => h) rfl (q_pickF rfl rfl) ?_
              refine ah_take 12 (fun w9 hs => hs) rfl rfl rfl (by kernel_rfl) (by kernel_rfl) (by kernel_rfl) (fun _ _ _ h => h) rfl (q_move rfl) ?_
              refine ah_skip 13 (fun w9 hs => hs) rfl rfl rfl (by kernel_rfl) (by kernel_rfl) (by kernel_rfl) (fun _ _ _ h => h) rfl ?_
              refine ah_skip 14 (fun w9 hs => hs) rfl rfl rfl (by kernel_rfl) (by kernel_rfl) (by kernel_rfl) (fun _ _ _ h => h) rfl ?_
              refine ah_skip 15 (fun w9 hs => hs) rfl rfl rfl (by kernel_rfl) (by kernel_rfl) (by kernel_rfl) (fun _ _ _ h => h) rfl ?_
              refine ah_skip 16 (fun w9 hs => hs) rfl rfl rfl (by kernel_rfl) (by kernel_rfl) (by kernel_rfl) (fun _ _ _ h => h) rfl ?_
              refine ah_skip 17 (fun w9 hs => hs) rfl rfl rfl (by kernel_rfl) (by kernel_rfl) (by kernel_rfl) (fun _ _ _ h => h) rfl ?_
              refine ah_skip 18 (fun w9 hs => hs) rfl rfl rfl (by kernel_rfl) (by kernel_rfl) (by kernel_rfl) (fun _ _ _ h => h) rfl ?_
              refine ah_skip 19 (fun w9 hs => hs) rfl rfl rfl (by kernel_rfl) (by kernel_rfl) (by kernel_rfl) (fun _ _ _ h => h) rfl ?_
              refine ah_skip 20 (fun w9 hs => hs) rfl rfl rfl (by kernel_rfl) (by kernel_rfl) (by kernel_rfl) (fun _ _ _ h => h) rfl ?_
              refine ah_skip 21 (fun w9 hs => hs) rfl rfl rfl (by kernel_rfl) (by kernel_rfl) (by kernel_rfl) (fun _ _ _ h => h) rfl ?_
              refine ah_take 22 (fun w9 hs => hs) rfl rfl rfl (by kernel_rfl) (by kernel_rfl) (by kernel_rfl) (fun _ _ _ h => h) rfl (q_pickF rfl rfl) ?_
              refine ah_done (by kernel_rfl) ?_
              refine aq_then ?_
              refine ac_condF rfl ?_
              refine ac_skip ?_
              refine aq_inN ?_
              refine aq_then ?_
              refine ac_region ?_
              refine al_q (q_move rfl) rfl rfl rfl ?_
              refine al_q (q_add rfl rfl (by omega)) rfl rfl rfl ?_
              refine al_q (q_assign rfl) rfl rfl rfl ?_
              refine al_end ?_
              refine aq_then ?_
              skip
              refine aq_round (k + 1) (by omega) trivial ⟨rfl, rfl, rfl, rfl, rfl, rfl, rfl, trivial⟩ (fun w9 hs => hs)
          · skip
            refine ac_exit ?_
            refine aq_thenE ?_
            refine aq_thenE ?_
            refine aq_hit ?_
            refine aq_then ?_
            refine ac_seq ?_
            refine ac_region ?_
            refine al_q (q_assign rfl) rfl rfl rfl ?_
            refine al_end ?_
            refine aq_then ?_
            refine ac_ret ?_
            refine ret1 Tryz.results3 rfl (fun w9 hs => ?_)
            exact ⟨rfl, hs.below⟩

end Go.Proofs.YtnikdbglpimadaaGreat
end
