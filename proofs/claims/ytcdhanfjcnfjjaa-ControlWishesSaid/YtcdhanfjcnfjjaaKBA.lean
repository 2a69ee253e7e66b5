import Derived.Test.YtcdhanfjcnfjjaaKAA
import Derived.Test.YtcdhanfjcnfjjaaKAY
import Derived.Test.YtcdhanfjcnfjjaaKAZ
import Derived.Test.YtcdhanfjcnfjjaaRows
import Derived.KernelRfl
import Derived.Laws.StructEq
import Derived.ProofKit
import Derived.OpenShut
import Derived.Lib.SmallJoins
import Derived.Deep.Slices
import Derived.Carry
section
/- The law ControlWishes: its walk, over this seat's translation (written by ax_cp.py). -/
namespace Go.Proofs.Ytcdhanfjcnfjjaa
set_option linter.unusedVariables false
set_option linter.unusedSimpArgs false
open Go.RowKit

theorem errL_zero {gr gz : Int} {s : ShapeD} (h : ¬ (errL gr gz s).2.2.2.2 = 0) : (errL gr gz s).1 = 0 ∧ (errL gr gz s).2.1 = 0 ∧ (errL gr gz s).2.2.1 = 0 ∧ (errL gr gz s).2.2.2.1 = 0 := by
  unfold errL at h ⊢
  split <;> simp_all
  split <;> simp_all
  split <;> simp_all
  split <;> simp_all

set_option maxRecDepth 100000 in
theorem cpv_eq_neq_apiSpan (a0 b0 : Int) (a1 b1 : Int) : ∀ w, (binOp .neq 38 (.agg #[.int .i64 a0, .int .i64 a1]) (.agg #[.int .i64 b0, .int .i64 b1])).run Try.prog w = .ok (.bool (!decide (a0 = b0 ∧ a1 = b1))) w := by
  intro w
  have e : binOp .neq 38 (.agg #[.int .i64 a0, .int .i64 a1]) (.agg #[.int .i64 b0, .int .i64 b1]) = (do pure (.bool (!(← Op.equal 38 (.agg #[.int .i64 a0, .int .i64 a1]) (.agg #[.int .i64 b0, .int .i64 b1])))) : Sem Value) := rfl
  have h : ∀ w, (Op.equal 38 (.agg #[.int .i64 a0, .int .i64 a1]) (.agg #[.int .i64 b0, .int .i64 b1])).run Try.prog w = .ok (decide (a0 = b0 ∧ a1 = b1)) w := by
    intro w
    show (Op.equalIn 10000 38 _ _).run _ w = _
    rw [run_equalIn_struct w 9999 38 _ _ (by kernel_rfl) (by kernel_rfl)]
    simp [Program.fieldsOf, Try.underlying38, Op.eqFields, go_sem, Try.underlying3, Try.isAgg3, Try.sizeOf3, str_eq]
    by_cases h0 : a0 = b0 <;> by_cases h1 : a1 = b1 <;> simp [h0, h1]
  rw [e]; simp [h]

set_option maxRecDepth 100000 in
theorem cpv_eq_neq_apiMemory (a0 b0 : Int) (a1 b1 : Int) : ∀ w, (binOp .neq 34 (.agg #[.int .i64 a0, .int .i64 a1]) (.agg #[.int .i64 b0, .int .i64 b1])).run Try.prog w = .ok (.bool (!decide (a0 = b0 ∧ a1 = b1))) w := by
  intro w
  have e : binOp .neq 34 (.agg #[.int .i64 a0, .int .i64 a1]) (.agg #[.int .i64 b0, .int .i64 b1]) = (do pure (.bool (!(← Op.equal 34 (.agg #[.int .i64 a0, .int .i64 a1]) (.agg #[.int .i64 b0, .int .i64 b1])))) : Sem Value) := rfl
  have h : ∀ w, (Op.equal 34 (.agg #[.int .i64 a0, .int .i64 a1]) (.agg #[.int .i64 b0, .int .i64 b1])).run Try.prog w = .ok (decide (a0 = b0 ∧ a1 = b1)) w := by
    intro w
    show (Op.equalIn 10000 34 _ _).run _ w = _
    rw [run_equalIn_struct w 9999 34 _ _ (by kernel_rfl) (by kernel_rfl)]
    simp [Program.fieldsOf, Try.underlying34, Op.eqFields, go_sem, Try.underlying3, Try.isAgg3, Try.sizeOf3, str_eq]
    by_cases h0 : a0 = b0 <;> by_cases h1 : a1 = b1 <;> simp [h0, h1]
  rw [e]; simp [h]

set_option maxRecDepth 100000 in
theorem wishes_ok (R : MachR) (M : MachD) (G : Option Addr) (ng cg : Nat) (gs : List GainD) (most y0 y1 gr gz : Int) (s : ShapeD) (mo : Int) (w : World) (hM : R.la ≤ 1000000000000000 → R.lb ≤ 1000000000000000 → R.lc ≤ 1000000000000000 → R.ld ≤ 1000000000000000 → IsM w R M) (hG : IsT 4 GainD.cells w G ng gs) (he : (errL gr gz s).2.2.2.2 = 0) : Calls Try.prog 4 #[(.agg (machCells R M)), (.agg #[.slice G ng cg, .int .i64 most]), (.agg #[.int .i64 y0, .int .i64 y1]), (.agg #[.int .i64 gr, .int .i64 gz]), s.v, (.int .i64 mo)] w (Ret (.bool true) w) := by
  obtain ⟨x10, x11, ht1, hx0, hx1, hx2, hx3⟩ : ∃ x10 x11 : SpanD, errT gr gz s = [x10, x11] ∧ x10.lo = (errL gr gz s).1 ∧ x10.hi = (errL gr gz s).2.1 ∧ x11.lo = (errL gr gz s).2.2.1 ∧ x11.hi = (errL gr gz s).2.2.2.1 := ⟨⟨_, _⟩, ⟨_, _⟩, by unfold errT; rw [if_pos he], rfl, rfl, rfl, rfl⟩
  have hx10 : (errT gr gz s)[0]? = some x10 := by rw [ht1]; rfl
  have hx11 : (errT gr gz s)[1]? = some x11 := by rw [ht1]; rfl
  have hl1 : (errT gr gz s).length = 2 := by rw [ht1]; rfl
  refine calls_ax (vs := [(.agg (machCells R M)), (.agg #[.slice G ng cg, .int .i64 most]), (.agg #[.int .i64 y0, .int .i64 y1]), (.agg #[.int .i64 gr, .int .i64 gz]), s.v, (.int .i64 mo)]) Try.func4 rfl rfl ?_
  refine ac_seq ?_
  refine ac_region ?_
  refine al_new (fun b => .pointer (some ⟨b, 0, none⟩)) (r_box rfl rfl) rfl rfl rfl ?_
  intro b1
  refine al_new (fun b => .pointer (some ⟨b, 0, none⟩)) (r_box rfl rfl) rfl rfl rfl ?_
  intro b2
  refine al_new (fun b => .pointer (some ⟨b, 0, none⟩)) (r_box rfl rfl) rfl rfl rfl ?_
  intro b3
  refine al_new (fun b => .pointer (some ⟨b, 0, none⟩)) (r_box rfl rfl) rfl rfl rfl ?_
  intro b4
  refine al_new (fun b => .pointer (some ⟨b, 0, none⟩)) (r_box rfl rfl) rfl rfl rfl ?_
  intro b5
  refine al_q (q_assign rfl) rfl rfl rfl ?_
  refine al_end ?_
  refine aq_then ?_
  refine ac_seq ?_
  refine ac_seq ?_
  refine ac_region ?_
  refine al_call Try.call5 .nil rfl rfl (fun w1 hs1 => ?_)
  refine (awake7_any _).mono ?_
  rintro e u1 ⟨rfl, hb_1⟩
  refine ⟨_, rfl, hb_1, ?_⟩
  clear hs1
  refine al_q (q_not rfl) rfl rfl rfl ?_
  refine al_end ?_
  refine aq_then ?_
  refine ac_condF rfl ?_
  refine ac_skip ?_
  refine aq_then ?_
  refine ac_seq ?_
  refine ac_seq ?_
  refine ac_region ?_
  refine al_q (q_loadAll (i := 4) rfl rfl Try.isAgg29 Try.sizeOf29 rfl) rfl rfl rfl ?_
  refine al_call Try.call6 (.cons rfl .nil) rfl rfl (fun w2 hs2 => ?_)
  refine (large_any R M _).mono ?_
  rintro e u2 ⟨rfl, hb_2⟩
  refine ⟨_, rfl, hb_2, ?_⟩
  clear hs2
  refine al_q (q_move rfl) rfl rfl rfl ?_
  refine aq_split 26 rfl (fun hb1 => ?_) (fun hb1 => ?_)
  · skip
    refine al_skip rfl rfl rfl ?_
    refine al_skip rfl rfl rfl ?_
    refine al_skip rfl rfl rfl ?_
    refine al_skip rfl rfl rfl ?_
    refine al_q (q_pickT rfl rfl) rfl rfl rfl ?_
    refine al_end ?_
    refine aq_then ?_
    refine ac_condT rfl ?_
    refine ac_seq ?_
    refine ac_region ?_
    refine al_q (q_assign rfl) rfl rfl rfl ?_
    refine al_end ?_
    refine aq_then ?_
    refine ac_ret ?_
    refine aq_thenR ?_
    refine ret1 Try.results4 rfl (fun w9 hs => ?_)
    exact ⟨rfl, hs.below⟩
  · have hlg : largeB M R = false := by simpa using hb1
    obtain ⟨g1, g2, g3, g4, g5⟩ := largeB_bd hlg
    have hM := hM (by omega) (by omega) (by omega) (by omega)
    refine al_q (q_fieldAddr 0 rfl Try.runUnderlying32 rfl Try.sizeOf30 (by decide) rfl) rfl rfl rfl ?_
    refine al_q (q_load (i := 3) rfl rfl rfl Try.isAgg30) rfl rfl rfl ?_
    refine al_q (q_lenS rfl Try.runUnderlying30) rfl rfl rfl ?_
    refine al_q (q_gtr rfl rfl) rfl rfl rfl ?_
    refine al_q (q_pickF rfl rfl) rfl rfl rfl ?_
    refine al_end ?_
    refine aq_then ?_
    refine ac_cond rfl (fun h1 => ?_) (fun h1 => ?_)
    · skip
      refine ac_seq ?_
      refine ac_region ?_
      refine al_q (q_assign rfl) rfl rfl rfl ?_
      refine al_end ?_
      refine aq_then ?_
      refine ac_ret ?_
      refine aq_thenR ?_
      refine ret1 Try.results4 rfl (fun w9 hs => ?_)
      exact ⟨rfl, hs.below⟩
    · have hng : ¬ 20 < ng := by have := of_decide_eq_false h1; omega
      refine ac_skip ?_
      refine aq_then ?_
      refine ac_seq ?_
      refine ac_region ?_
      refine al_q (q_loadAll (i := 1) rfl rfl Try.isAgg36 Try.sizeOf36 rfl) rfl rfl rfl ?_
      refine al_q (q_loadAll (i := 0) rfl rfl Try.isAgg40 Try.sizeOf40 rfl) rfl rfl rfl ?_
      refine al_call Try.call12 (.cons rfl (.cons rfl .nil)) rfl rfl (fun w3 hs3 => ?_)
      refine (errors_any gr gz s _).mono ?_
      rintro e u3 ⟨rfl, hb_3⟩
      refine ⟨_, rfl, hb_3, ?_⟩
      clear hs3
      refine al_q (q_move rfl) rfl rfl rfl ?_
      refine al_q (q_extract rfl rfl) rfl rfl rfl ?_
      refine al_q (q_extract rfl rfl) rfl rfl rfl ?_
      refine al_q (q_extract rfl rfl) rfl rfl rfl ?_
      refine al_new (fun b => .pointer (some ⟨b, 0, none⟩)) (r_alloc Try.zeroValue38 rfl) rfl rfl rfl ?_
      intro b6
      refine al_new (fun b => .pointer (some ⟨b, 0, none⟩)) (r_alloc Try.zeroValue38 rfl) rfl rfl rfl ?_
      intro b7
      refine al_storeAll (i := 1) rfl rfl rfl rfl Try.sizeOf38 rfl rfl .k1 rfl ?_
      refine al_storeAll (i := 0) rfl rfl rfl rfl Try.sizeOf38 rfl rfl .k0 rfl ?_
      refine al_q (q_assign rfl) rfl rfl rfl ?_
      refine al_end ?_
      refine aq_then ?_
      refine ac_seq ?_
      refine ac_region ?_
      refine al_q (q_loadAll (i := 3) rfl rfl Try.isAgg36 Try.sizeOf36 rfl) rfl rfl rfl ?_
      refine al_q (q_loadAll (i := 2) rfl rfl Try.isAgg40 Try.sizeOf40 rfl) rfl rfl rfl ?_
      refine al_call Try.call7 (.cons rfl (.cons rfl .nil)) rfl rfl (fun w4 hs4 => ?_)
      refine (rerrN_any gr gz s _).mono ?_
      rintro e u4 ⟨A1, d1, rfl, N1, hb_4⟩
      obtain ⟨bo1, oo1, hA1, hlt1, hget1⟩ := N1.isT.2 (by rw [hl1]; decide)
      refine ⟨_, rfl, hb_4, ?_⟩
      clear hs4
      refine al_q (q_move rfl) rfl rfl rfl ?_
      refine al_q (q_extract rfl rfl) rfl rfl rfl ?_
      refine al_q (q_extract rfl rfl) rfl rfl rfl ?_
      refine al_q (q_assign rfl) rfl rfl rfl ?_
      refine al_q (q_assign rfl) rfl rfl rfl ?_
      refine al_end ?_
      refine aq_then ?_
      refine ac_seq ?_
      refine ac_seq ?_
      refine ac_draw 34 (by kernel_rfl) (by kernel_rfl) ?_
      refine ah_take 0 (fun w9 hs => hs) rfl rfl rfl (by kernel_rfl) (by kernel_rfl) (by kernel_rfl) (fun _ _ _ h => h) rfl (q_move rfl) ?_
      refine ah_take 1 (fun w9 hs => hs) rfl rfl rfl (by kernel_rfl) (by kernel_rfl) (by kernel_rfl) (fun _ _ _ h => h) rfl (q_move rfl) ?_
      refine ah_take 2 (fun w9 hs => hs) rfl rfl rfl (by kernel_rfl) (by kernel_rfl) (by kernel_rfl) (fun _ _ _ h => h) rfl (q_same (v' := .bool false) (q_neq rfl rfl) (by simp)) ?_
      refine ah_take 3 (fun w9 hs => hs) rfl rfl rfl (by kernel_rfl) (by kernel_rfl) (by kernel_rfl) (fun _ _ _ h => h) rfl (q_move rfl) ?_
      refine ah_take 4 (fun w9 hs => hs) rfl rfl rfl (by kernel_rfl) (by kernel_rfl) (by kernel_rfl) (fun _ _ _ h => h) rfl (q_move rfl) ?_
      refine ah_take 5 (fun w9 hs => hs) rfl rfl rfl (by kernel_rfl) (by kernel_rfl) (by kernel_rfl) (fun _ _ _ h => h) rfl (q_same (v' := .bool true) (q_eql rfl rfl) (by rw [he]; simp)) ?_
      refine ah_take 6 (fun w9 hs => hs) rfl rfl rfl (by kernel_rfl) (by kernel_rfl) (by kernel_rfl) (fun _ _ _ h => h) rfl (q_move rfl) ?_
      refine ah_take 7 (fun w9 hs => hs) rfl rfl rfl (by kernel_rfl) (by kernel_rfl) (by kernel_rfl) (fun _ _ _ h => h) rfl (q_loadAll (i := 1) rfl rfl Try.isAgg38 Try.sizeOf38 rfl) ?_
      refine ah_take 8 (fun w9 hs => hs) rfl rfl rfl (by kernel_rfl) (by kernel_rfl) (by kernel_rfl) (fun _ _ _ h => h) rfl (q_move rfl) ?_
      refine ah_take 9 (fun w9 hs => hs) rfl rfl rfl (by kernel_rfl) (by kernel_rfl) (by kernel_rfl) (fun _ _ _ h => h) rfl (q_indexAddrA (i := 0) (oo1 + 0 * 2 + 0) hA1 rfl rfl rfl (by omega) Try.runUnderlying43 Try.sizeOf38 rfl) ?_
      refine ah_take 10 (fun w9 hs => hs) rfl rfl rfl (by kernel_rfl) (by kernel_rfl) (by kernel_rfl) (fun _ _ _ h => h) rfl (q_loadXs (SpanD.cells x10) rfl Try.isAgg38 Try.sizeOf38 (fun w9 hs j9 v9 h9 => by rw [addr_add]; exact hs.cellOf (.head _) (N1.new _ _ hA1) hlt1 (hget1 0 x10 hx10 j9 v9 h9)) rfl) ?_
      refine ah_take 11 (fun w9 hs => hs) rfl rfl rfl (by kernel_rfl) (by kernel_rfl) (by kernel_rfl) (fun _ _ _ h => h) rfl (q_same (v' := .bool false) (q_cmpS rfl rfl (by kernel_rfl) (cpv_eq_neq_apiSpan _ _ _ _)) (by simp [hx0, hx1])) ?_
      refine ah_take 12 (fun w9 hs => hs) rfl rfl rfl (by kernel_rfl) (by kernel_rfl) (by kernel_rfl) (fun _ _ _ h => h) rfl (q_move rfl) ?_
      refine ah_take 13 (fun w9 hs => hs) rfl rfl rfl (by kernel_rfl) (by kernel_rfl) (by kernel_rfl) (fun _ _ _ h => h) rfl (q_loadAll (i := 0) rfl rfl Try.isAgg38 Try.sizeOf38 rfl) ?_
      refine ah_take 14 (fun w9 hs => hs) rfl rfl rfl (by kernel_rfl) (by kernel_rfl) (by kernel_rfl) (fun _ _ _ h => h) rfl (q_move rfl) ?_
      refine ah_take 15 (fun w9 hs => hs) rfl rfl rfl (by kernel_rfl) (by kernel_rfl) (by kernel_rfl) (fun _ _ _ h => h) rfl (q_indexAddrA (i := 1) (oo1 + 1 * 2 + 0) hA1 rfl rfl rfl (by omega) Try.runUnderlying43 Try.sizeOf38 rfl) ?_
      refine ah_take 16 (fun w9 hs => hs) rfl rfl rfl (by kernel_rfl) (by kernel_rfl) (by kernel_rfl) (fun _ _ _ h => h) rfl (q_loadXs (SpanD.cells x11) rfl Try.isAgg38 Try.sizeOf38 (fun w9 hs j9 v9 h9 => by rw [addr_add]; exact hs.cellOf (.head _) (N1.new _ _ hA1) hlt1 (hget1 1 x11 hx11 j9 v9 h9)) rfl) ?_
      refine ah_take 17 (fun w9 hs => hs) rfl rfl rfl (by kernel_rfl) (by kernel_rfl) (by kernel_rfl) (fun _ _ _ h => h) rfl (q_same (v' := .bool false) (q_cmpS rfl rfl (by kernel_rfl) (cpv_eq_neq_apiSpan _ _ _ _)) (by simp [hx2, hx3])) ?_
      refine ah_take 18 (fun w9 hs => hs) rfl rfl rfl (by kernel_rfl) (by kernel_rfl) (by kernel_rfl) (fun _ _ _ h => h) rfl (q_pickF rfl rfl) ?_
      refine ah_take 19 (fun w9 hs => hs) rfl rfl rfl (by kernel_rfl) (by kernel_rfl) (by kernel_rfl) (fun _ _ _ h => h) rfl (q_pickT rfl rfl) ?_
      refine ah_take 20 (fun w9 hs => hs) rfl rfl rfl (by kernel_rfl) (by kernel_rfl) (by kernel_rfl) (fun _ _ _ h => h) rfl (q_pickF rfl rfl) ?_
      refine ah_take 21 (fun w9 hs => hs) rfl rfl rfl (by kernel_rfl) (by kernel_rfl) (by kernel_rfl) (fun _ _ _ h => h) rfl (q_move rfl) ?_
      refine ah_take 22 (fun w9 hs => hs) rfl rfl rfl (by kernel_rfl) (by kernel_rfl) (by kernel_rfl) (fun _ _ _ h => h) rfl (q_move rfl) ?_
      refine ah_take 23 (fun w9 hs => hs) rfl rfl rfl (by kernel_rfl) (by kernel_rfl) (by kernel_rfl) (fun _ _ _ h => h) rfl (q_same (v' := .bool false) (q_neq rfl rfl) (by rw [he]; simp)) ?_
      refine ah_take 24 (fun w9 hs => hs) rfl rfl rfl (by kernel_rfl) (by kernel_rfl) (by kernel_rfl) (fun _ _ _ h => h) rfl (q_move rfl) ?_
      refine ah_skip 25 (fun w9 hs => hs) rfl rfl rfl (by kernel_rfl) (by kernel_rfl) (by kernel_rfl) (fun _ _ _ h => h) rfl ?_
      refine ah_skip 26 (fun w9 hs => hs) rfl rfl rfl (by kernel_rfl) (by kernel_rfl) (by kernel_rfl) (fun _ _ _ h => h) rfl ?_
      refine ah_skip 27 (fun w9 hs => hs) rfl rfl rfl (by kernel_rfl) (by kernel_rfl) (by kernel_rfl) (fun _ _ _ h => h) rfl ?_
      refine ah_skip 28 (fun w9 hs => hs) rfl rfl rfl (by kernel_rfl) (by kernel_rfl) (by kernel_rfl) (fun _ _ _ h => h) rfl ?_
      refine ah_skip 29 (fun w9 hs => hs) rfl rfl rfl (by kernel_rfl) (by kernel_rfl) (by kernel_rfl) (fun _ _ _ h => h) rfl ?_
      refine ah_skip 30 (fun w9 hs => hs) rfl rfl rfl (by kernel_rfl) (by kernel_rfl) (by kernel_rfl) (fun _ _ _ h => h) rfl ?_
      refine ah_skip 31 (fun w9 hs => hs) rfl rfl rfl (by kernel_rfl) (by kernel_rfl) (by kernel_rfl) (fun _ _ _ h => h) rfl ?_
      refine ah_skip 32 (fun w9 hs => hs) rfl rfl rfl (by kernel_rfl) (by kernel_rfl) (by kernel_rfl) (fun _ _ _ h => h) rfl ?_
      refine ah_take 33 (fun w9 hs => hs) rfl rfl rfl (by kernel_rfl) (by kernel_rfl) (by kernel_rfl) (fun _ _ _ h => h) rfl (q_pickF rfl rfl) ?_
      refine ah_take 34 (fun w9 hs => hs) rfl rfl rfl (by kernel_rfl) (by kernel_rfl) (by kernel_rfl) (fun _ _ _ h => h) rfl (q_pickF rfl rfl) ?_
      refine ah_done (by kernel_rfl) ?_
      refine aq_then ?_
      refine ac_condF rfl ?_
      refine ac_skip ?_
      refine aq_then ?_
      refine ac_seq ?_
      refine ac_region ?_
      refine al_q (q_move rfl) rfl rfl rfl ?_
      refine al_q (q_loadAll (i := 4) rfl rfl Try.isAgg34 Try.sizeOf34 rfl) rfl rfl rfl ?_
      refine al_q (q_loadAll (i := 3) rfl rfl Try.isAgg36 Try.sizeOf36 rfl) rfl rfl rfl ?_
      refine al_q (q_loadAll (i := 2) rfl rfl Try.isAgg40 Try.sizeOf40 rfl) rfl rfl rfl ?_
      refine al_call Try.call9 (.cons rfl (.cons rfl (.cons rfl (.cons rfl .nil)))) rfl rfl (fun w5 hs5 => ?_)
      refine (remember_any mo y0 y1 gr gz s _).mono ?_
      rintro e u5 ⟨rfl, hb_5⟩
      refine ⟨_, rfl, hb_5, ?_⟩
      clear hs5
      refine al_q (q_move rfl) rfl rfl rfl ?_
      refine al_q (q_extract rfl rfl) rfl rfl rfl ?_
      refine al_q (q_extract rfl rfl) rfl rfl rfl ?_
      refine al_new (fun b => .pointer (some ⟨b, 0, none⟩)) (r_alloc Try.zeroValue34 rfl) rfl rfl rfl ?_
      intro b8
      refine al_storeAll (i := 0) rfl rfl rfl rfl Try.sizeOf34 rfl rfl .k0 rfl ?_
      refine al_q (q_assign rfl) rfl rfl rfl ?_
      refine al_end ?_
      refine aq_then ?_
      refine ac_seq ?_
      refine ac_region ?_
      refine al_q (q_move rfl) rfl rfl rfl ?_
      refine al_q (q_loadAll (i := 5) rfl rfl Try.isAgg34 Try.sizeOf34 rfl) rfl rfl rfl ?_
      refine al_q (q_loadAll (i := 4) rfl rfl Try.isAgg36 Try.sizeOf36 rfl) rfl rfl rfl ?_
      refine al_q (q_loadAll (i := 3) rfl rfl Try.isAgg40 Try.sizeOf40 rfl) rfl rfl rfl ?_
      refine al_call Try.call13 (.cons rfl (.cons rfl (.cons rfl (.cons rfl .nil)))) rfl rfl (fun w6 hs6 => ?_)
      refine (rrememberN_any mo y0 y1 gr gz s _).mono ?_
      rintro e u6 ⟨rfl, hb_6⟩
      refine ⟨_, rfl, hb_6, ?_⟩
      clear hs6
      refine al_q (q_move rfl) rfl rfl rfl ?_
      refine al_q (q_extract rfl rfl) rfl rfl rfl ?_
      refine al_q (q_extract rfl rfl) rfl rfl rfl ?_
      refine al_new (fun b => .pointer (some ⟨b, 0, none⟩)) (r_alloc Try.zeroValue34 rfl) rfl rfl rfl ?_
      intro b9
      refine al_storeAll (i := 0) rfl rfl rfl rfl Try.sizeOf34 rfl rfl .k0 rfl ?_
      refine al_q (q_assign rfl) rfl rfl rfl ?_
      refine al_end ?_
      refine aq_then ?_
      refine ac_seq ?_
      refine ac_seq ?_
      refine ac_region ?_
      refine al_q (q_loadAll (i := 1) rfl rfl Try.isAgg34 Try.sizeOf34 rfl) rfl rfl rfl ?_
      refine al_q (q_loadAll (i := 0) rfl rfl Try.isAgg34 Try.sizeOf34 rfl) rfl rfl rfl ?_
      refine al_q (q_same (v' := .bool false) (q_cmpS rfl rfl (by kernel_rfl) (cpv_eq_neq_apiMemory _ _ _ _)) (by simp)) rfl rfl rfl ?_
      refine al_q (q_move rfl) rfl rfl rfl ?_
      refine al_q (q_move rfl) rfl rfl rfl ?_
      refine al_q (q_move rfl) rfl rfl rfl ?_
      refine al_q (q_same (v' := .bool false) (q_neq rfl rfl) (by simp)) rfl rfl rfl ?_
      refine al_q (q_pickF rfl rfl) rfl rfl rfl ?_
      refine al_end ?_
      refine aq_then ?_
      refine ac_condF rfl ?_
      refine ac_skip ?_
      refine aq_then ?_
      refine ac_seq ?_
      refine ac_region ?_
      refine al_q (q_loadAll (i := 8) rfl rfl Try.isAgg29 Try.sizeOf29 rfl) rfl rfl rfl ?_
      refine al_q (q_loadAll (i := 7) rfl rfl Try.isAgg32 Try.sizeOf32 rfl) rfl rfl rfl ?_
      refine al_q (q_loadAll (i := 6) rfl rfl Try.isAgg34 Try.sizeOf34 rfl) rfl rfl rfl ?_
      refine al_q (q_loadAll (i := 5) rfl rfl Try.isAgg36 Try.sizeOf36 rfl) rfl rfl rfl ?_
      refine al_q (q_loadAll (i := 4) rfl rfl Try.isAgg40 Try.sizeOf40 rfl) rfl rfl rfl ?_
      refine al_call Try.call10 (.cons rfl (.cons rfl (.cons rfl (.cons rfl (.cons rfl .nil))))) rfl rfl (fun w7 hs7 => ?_)
      refine (wishN_any R M G ng cg gs most y0 y1 gr gz s _ (hM.below hs7.below) (hG.below hs7.below) (by omega)).mono ?_
      rintro e u7 ⟨A3, d3, rfl, N3, hL3, hb_7⟩
      refine ⟨_, rfl, hb_7, ?_⟩
      clear hs7
      refine al_q (q_move rfl) rfl rfl rfl ?_
      refine al_q (q_extract rfl rfl) rfl rfl rfl ?_
      refine al_q (q_extract rfl rfl) rfl rfl rfl ?_
      refine al_q (q_assign rfl) rfl rfl rfl ?_
      refine al_q (q_assign rfl) rfl rfl rfl ?_
      refine al_end ?_
      refine aq_then ?_
      refine ac_seq ?_
      refine ac_region ?_
      refine al_q (q_loadAll (i := 8) rfl rfl Try.isAgg29 Try.sizeOf29 rfl) rfl rfl rfl ?_
      refine al_q (q_loadAll (i := 7) rfl rfl Try.isAgg32 Try.sizeOf32 rfl) rfl rfl rfl ?_
      refine al_q (q_loadAll (i := 6) rfl rfl Try.isAgg34 Try.sizeOf34 rfl) rfl rfl rfl ?_
      refine al_q (q_loadAll (i := 5) rfl rfl Try.isAgg36 Try.sizeOf36 rfl) rfl rfl rfl ?_
      refine al_q (q_loadAll (i := 4) rfl rfl Try.isAgg40 Try.sizeOf40 rfl) rfl rfl rfl ?_
      refine al_call Try.call14 (.cons rfl (.cons rfl (.cons rfl (.cons rfl (.cons rfl .nil))))) rfl rfl (fun w8 hs8 => ?_)
      refine (rwishN_any R M G ng cg gs most y0 y1 gr gz s _ (hM.below hs8.below) (hG.below hs8.below) (by omega)).mono ?_
      rintro e u8 ⟨A4, d4, rfl, N4, hL4, hb_8⟩
      refine ⟨_, rfl, hb_8, ?_⟩
      clear hs8
      refine al_q (q_move rfl) rfl rfl rfl ?_
      refine al_q (q_extract rfl rfl) rfl rfl rfl ?_
      refine al_q (q_extract rfl rfl) rfl rfl rfl ?_
      refine al_q (q_assign rfl) rfl rfl rfl ?_
      refine al_q (q_assign rfl) rfl rfl rfl ?_
      refine al_end ?_
      refine aq_then ?_
      refine ac_seq ?_
      refine ac_region ?_
      refine al_q (q_move rfl) rfl rfl rfl ?_
      refine al_q (q_move rfl) rfl rfl rfl ?_
      refine al_call Try.call11 (.cons rfl (.cons rfl .nil)) rfl rfl (fun w9 hs9 => ?_)
      refine (ints_any A3 A4 (wishT M gs most y0 y1 gr gz s).length d3 (wishT M gs most y0 y1 gr gz s).length d4 _ _ _ (hs9.newT (.tail _ (.head _)) N3) (hs9.newT (.head _) N4) (by omega) (by omega)).mono ?_
      rintro e u9 ⟨rfl, hb_9⟩
      refine ⟨_, rfl, hb_9, ?_⟩
      clear hs9
      refine al_q (q_same (v' := .bool true) (q_move rfl) (by simp)) rfl rfl rfl ?_
      refine al_q (q_move rfl) rfl rfl rfl ?_
      refine al_q (q_move rfl) rfl rfl rfl ?_
      refine al_q (q_same (v' := .bool true) (q_eql rfl rfl) (by simp)) rfl rfl rfl ?_
      refine al_q (q_pickT rfl rfl) rfl rfl rfl ?_
      refine al_q (q_assign rfl) rfl rfl rfl ?_
      refine al_end ?_
      refine aq_then ?_
      refine ac_ret ?_
      refine ret1 Try.results4 rfl (fun w9 hs => ?_)
      exact ⟨rfl, hs.below⟩

theorem cpv_bl_apiSpan_ : ∀ w, (Instr.build 38 #[]).run Try.prog w = .ok (.agg #[(.int .i64 0), (.int .i64 0)]) w := by
  intro w; simp [Instr.build, Instr.fill, cells_agg, Try.runUnderlying38, Try.zeroValue38, Try.sizeOf3]

set_option maxRecDepth 100000 in
theorem wishes_bad (R : MachR) (M : MachD) (G : Option Addr) (ng cg : Nat) (gs : List GainD) (most y0 y1 gr gz : Int) (s : ShapeD) (mo : Int) (w : World) (hM : R.la ≤ 1000000000000000 → R.lb ≤ 1000000000000000 → R.lc ≤ 1000000000000000 → R.ld ≤ 1000000000000000 → IsM w R M) (hG : IsT 4 GainD.cells w G ng gs) (he : ¬ (errL gr gz s).2.2.2.2 = 0) : Calls Try.prog 4 #[(.agg (machCells R M)), (.agg #[.slice G ng cg, .int .i64 most]), (.agg #[.int .i64 y0, .int .i64 y1]), (.agg #[.int .i64 gr, .int .i64 gz]), s.v, (.int .i64 mo)] w (Ret (.bool true) w) := by
  have hz := errL_zero he
  refine calls_ax (vs := [(.agg (machCells R M)), (.agg #[.slice G ng cg, .int .i64 most]), (.agg #[.int .i64 y0, .int .i64 y1]), (.agg #[.int .i64 gr, .int .i64 gz]), s.v, (.int .i64 mo)]) Try.func4 rfl rfl ?_
  refine ac_seq ?_
  refine ac_region ?_
  refine al_new (fun b => .pointer (some ⟨b, 0, none⟩)) (r_box rfl rfl) rfl rfl rfl ?_
  intro b1
  refine al_new (fun b => .pointer (some ⟨b, 0, none⟩)) (r_box rfl rfl) rfl rfl rfl ?_
  intro b2
  refine al_new (fun b => .pointer (some ⟨b, 0, none⟩)) (r_box rfl rfl) rfl rfl rfl ?_
  intro b3
  refine al_new (fun b => .pointer (some ⟨b, 0, none⟩)) (r_box rfl rfl) rfl rfl rfl ?_
  intro b4
  refine al_new (fun b => .pointer (some ⟨b, 0, none⟩)) (r_box rfl rfl) rfl rfl rfl ?_
  intro b5
  refine al_q (q_assign rfl) rfl rfl rfl ?_
  refine al_end ?_
  refine aq_then ?_
  refine ac_seq ?_
  refine ac_seq ?_
  refine ac_region ?_
  refine al_call Try.call5 .nil rfl rfl (fun w1 hs1 => ?_)
  refine (awake7_any _).mono ?_
  rintro e u1 ⟨rfl, hb_1⟩
  refine ⟨_, rfl, hb_1, ?_⟩
  clear hs1
  refine al_q (q_not rfl) rfl rfl rfl ?_
  refine al_end ?_
  refine aq_then ?_
  refine ac_condF rfl ?_
  refine ac_skip ?_
  refine aq_then ?_
  refine ac_seq ?_
  refine ac_seq ?_
  refine ac_region ?_
  refine al_q (q_loadAll (i := 4) rfl rfl Try.isAgg29 Try.sizeOf29 rfl) rfl rfl rfl ?_
  refine al_call Try.call6 (.cons rfl .nil) rfl rfl (fun w2 hs2 => ?_)
  refine (large_any R M _).mono ?_
  rintro e u2 ⟨rfl, hb_2⟩
  refine ⟨_, rfl, hb_2, ?_⟩
  clear hs2
  refine al_q (q_move rfl) rfl rfl rfl ?_
  refine aq_split 26 rfl (fun hb1 => ?_) (fun hb1 => ?_)
  · skip
    refine al_skip rfl rfl rfl ?_
    refine al_skip rfl rfl rfl ?_
    refine al_skip rfl rfl rfl ?_
    refine al_skip rfl rfl rfl ?_
    refine al_q (q_pickT rfl rfl) rfl rfl rfl ?_
    refine al_end ?_
    refine aq_then ?_
    refine ac_condT rfl ?_
    refine ac_seq ?_
    refine ac_region ?_
    refine al_q (q_assign rfl) rfl rfl rfl ?_
    refine al_end ?_
    refine aq_then ?_
    refine ac_ret ?_
    refine aq_thenR ?_
    refine ret1 Try.results4 rfl (fun w9 hs => ?_)
    exact ⟨rfl, hs.below⟩
  · have hlg : largeB M R = false := by simpa using hb1
    obtain ⟨g1, g2, g3, g4, g5⟩ := largeB_bd hlg
    have hM := hM (by omega) (by omega) (by omega) (by omega)
    refine al_q (q_fieldAddr 0 rfl Try.runUnderlying32 rfl Try.sizeOf30 (by decide) rfl) rfl rfl rfl ?_
    refine al_q (q_load (i := 3) rfl rfl rfl Try.isAgg30) rfl rfl rfl ?_
    refine al_q (q_lenS rfl Try.runUnderlying30) rfl rfl rfl ?_
    refine al_q (q_gtr rfl rfl) rfl rfl rfl ?_
    refine al_q (q_pickF rfl rfl) rfl rfl rfl ?_
    refine al_end ?_
    refine aq_then ?_
    refine ac_cond rfl (fun h1 => ?_) (fun h1 => ?_)
    · skip
      refine ac_seq ?_
      refine ac_region ?_
      refine al_q (q_assign rfl) rfl rfl rfl ?_
      refine al_end ?_
      refine aq_then ?_
      refine ac_ret ?_
      refine aq_thenR ?_
      refine ret1 Try.results4 rfl (fun w9 hs => ?_)
      exact ⟨rfl, hs.below⟩
    · have hng : ¬ 20 < ng := by have := of_decide_eq_false h1; omega
      refine ac_skip ?_
      refine aq_then ?_
      refine ac_seq ?_
      refine ac_region ?_
      refine al_q (q_loadAll (i := 1) rfl rfl Try.isAgg36 Try.sizeOf36 rfl) rfl rfl rfl ?_
      refine al_q (q_loadAll (i := 0) rfl rfl Try.isAgg40 Try.sizeOf40 rfl) rfl rfl rfl ?_
      refine al_call Try.call12 (.cons rfl (.cons rfl .nil)) rfl rfl (fun w3 hs3 => ?_)
      refine (errors_any gr gz s _).mono ?_
      rintro e u3 ⟨rfl, hb_3⟩
      refine ⟨_, rfl, hb_3, ?_⟩
      clear hs3
      refine al_q (q_move rfl) rfl rfl rfl ?_
      refine al_q (q_extract rfl rfl) rfl rfl rfl ?_
      refine al_q (q_extract rfl rfl) rfl rfl rfl ?_
      refine al_q (q_extract rfl rfl) rfl rfl rfl ?_
      refine al_new (fun b => .pointer (some ⟨b, 0, none⟩)) (r_alloc Try.zeroValue38 rfl) rfl rfl rfl ?_
      intro b6
      refine al_new (fun b => .pointer (some ⟨b, 0, none⟩)) (r_alloc Try.zeroValue38 rfl) rfl rfl rfl ?_
      intro b7
      refine al_storeAll (i := 1) rfl rfl rfl rfl Try.sizeOf38 rfl rfl .k1 rfl ?_
      refine al_storeAll (i := 0) rfl rfl rfl rfl Try.sizeOf38 rfl rfl .k0 rfl ?_
      refine al_q (q_assign rfl) rfl rfl rfl ?_
      refine al_end ?_
      refine aq_then ?_
      refine ac_seq ?_
      refine ac_region ?_
      refine al_q (q_loadAll (i := 3) rfl rfl Try.isAgg36 Try.sizeOf36 rfl) rfl rfl rfl ?_
      refine al_q (q_loadAll (i := 2) rfl rfl Try.isAgg40 Try.sizeOf40 rfl) rfl rfl rfl ?_
      refine al_call Try.call7 (.cons rfl (.cons rfl .nil)) rfl rfl (fun w4 hs4 => ?_)
      refine (rerrN_any gr gz s _).mono ?_
      rintro e u4 ⟨A1, d1, rfl, N1, hb_4⟩
      refine ⟨_, rfl, hb_4, ?_⟩
      clear hs4
      refine al_q (q_move rfl) rfl rfl rfl ?_
      refine al_q (q_extract rfl rfl) rfl rfl rfl ?_
      refine al_q (q_extract rfl rfl) rfl rfl rfl ?_
      refine al_q (q_assign rfl) rfl rfl rfl ?_
      refine al_q (q_assign rfl) rfl rfl rfl ?_
      refine al_end ?_
      refine aq_then ?_
      refine ac_seq ?_
      refine ac_seq ?_
      refine ac_draw 34 (by kernel_rfl) (by kernel_rfl) ?_
      refine ah_take 0 (fun w9 hs => hs) rfl rfl rfl (by kernel_rfl) (by kernel_rfl) (by kernel_rfl) (fun _ _ _ h => h) rfl (q_move rfl) ?_
      refine ah_take 1 (fun w9 hs => hs) rfl rfl rfl (by kernel_rfl) (by kernel_rfl) (by kernel_rfl) (fun _ _ _ h => h) rfl (q_move rfl) ?_
      refine ah_take 2 (fun w9 hs => hs) rfl rfl rfl (by kernel_rfl) (by kernel_rfl) (by kernel_rfl) (fun _ _ _ h => h) rfl (q_same (v' := .bool false) (q_neq rfl rfl) (by simp)) ?_
      refine ah_take 3 (fun w9 hs => hs) rfl rfl rfl (by kernel_rfl) (by kernel_rfl) (by kernel_rfl) (fun _ _ _ h => h) rfl (q_move rfl) ?_
      refine ah_take 4 (fun w9 hs => hs) rfl rfl rfl (by kernel_rfl) (by kernel_rfl) (by kernel_rfl) (fun _ _ _ h => h) rfl (q_move rfl) ?_
      refine ah_take 5 (fun w9 hs => hs) rfl rfl rfl (by kernel_rfl) (by kernel_rfl) (by kernel_rfl) (fun _ _ _ h => h) rfl (q_same (v' := .bool false) (q_eql rfl rfl) (by simp [he])) ?_
      refine ah_take 6 (fun w9 hs => hs) rfl rfl rfl (by kernel_rfl) (by kernel_rfl) (by kernel_rfl) (fun _ _ _ h => h) rfl (q_move rfl) ?_
      refine ah_skip 7 (fun w9 hs => hs) rfl rfl rfl (by kernel_rfl) (by kernel_rfl) (by kernel_rfl) (fun _ _ _ h => h) rfl ?_
      refine ah_skip 8 (fun w9 hs => hs) rfl rfl rfl (by kernel_rfl) (by kernel_rfl) (by kernel_rfl) (fun _ _ _ h => h) rfl ?_
      refine ah_skip 9 (fun w9 hs => hs) rfl rfl rfl (by kernel_rfl) (by kernel_rfl) (by kernel_rfl) (fun _ _ _ h => h) rfl ?_
      refine ah_skip 10 (fun w9 hs => hs) rfl rfl rfl (by kernel_rfl) (by kernel_rfl) (by kernel_rfl) (fun _ _ _ h => h) rfl ?_
      refine ah_skip 11 (fun w9 hs => hs) rfl rfl rfl (by kernel_rfl) (by kernel_rfl) (by kernel_rfl) (fun _ _ _ h => h) rfl ?_
      refine ah_skip 12 (fun w9 hs => hs) rfl rfl rfl (by kernel_rfl) (by kernel_rfl) (by kernel_rfl) (fun _ _ _ h => h) rfl ?_
      refine ah_skip 13 (fun w9 hs => hs) rfl rfl rfl (by kernel_rfl) (by kernel_rfl) (by kernel_rfl) (fun _ _ _ h => h) rfl ?_
      refine ah_skip 14 (fun w9 hs => hs) rfl rfl rfl (by kernel_rfl) (by kernel_rfl) (by kernel_rfl) (fun _ _ _ h => h) rfl ?_
      refine ah_skip 15 (fun w9 hs => hs) rfl rfl rfl (by kernel_rfl) (by kernel_rfl) (by kernel_rfl) (fun _ _ _ h => h) rfl ?_
      refine ah_skip 16 (fun w9 hs => hs) rfl rfl rfl (by kernel_rfl) (by kernel_rfl) (by kernel_rfl) (fun _ _ _ h => h) rfl ?_
      refine ah_skip 17 (fun w9 hs => hs) rfl rfl rfl (by kernel_rfl) (by kernel_rfl) (by kernel_rfl) (fun _ _ _ h => h) rfl ?_
      refine ah_skip 18 (fun w9 hs => hs) rfl rfl rfl (by kernel_rfl) (by kernel_rfl) (by kernel_rfl) (fun _ _ _ h => h) rfl ?_
      refine ah_take 19 (fun w9 hs => hs) rfl rfl rfl (by kernel_rfl) (by kernel_rfl) (by kernel_rfl) (fun _ _ _ h => h) rfl (q_pickF rfl rfl) ?_
      refine ah_take 20 (fun w9 hs => hs) rfl rfl rfl (by kernel_rfl) (by kernel_rfl) (by kernel_rfl) (fun _ _ _ h => h) rfl (q_pickF rfl rfl) ?_
      refine ah_take 21 (fun w9 hs => hs) rfl rfl rfl (by kernel_rfl) (by kernel_rfl) (by kernel_rfl) (fun _ _ _ h => h) rfl (q_move rfl) ?_
      refine ah_take 22 (fun w9 hs => hs) rfl rfl rfl (by kernel_rfl) (by kernel_rfl) (by kernel_rfl) (fun _ _ _ h => h) rfl (q_move rfl) ?_
      refine ah_take 23 (fun w9 hs => hs) rfl rfl rfl (by kernel_rfl) (by kernel_rfl) (by kernel_rfl) (fun _ _ _ h => h) rfl (q_same (v' := .bool true) (q_neq rfl rfl) (by simp [he])) ?_
      refine ah_take 24 (fun w9 hs => hs) rfl rfl rfl (by kernel_rfl) (by kernel_rfl) (by kernel_rfl) (fun _ _ _ h => h) rfl (q_move rfl) ?_
      refine ah_take 25 (fun w9 hs => hs) rfl rfl rfl (by kernel_rfl) (by kernel_rfl) (by kernel_rfl) (fun _ _ _ h => h) rfl (q_loadAll (i := 1) rfl rfl Try.isAgg38 Try.sizeOf38 rfl) ?_
      refine ah_take 26 (fun w9 hs => hs) rfl rfl rfl (by kernel_rfl) (by kernel_rfl) (by kernel_rfl) (fun _ _ _ h => h) rfl (q_build .nil (cpv_bl_apiSpan_)) ?_
      refine ah_take 27 (fun w9 hs => hs) rfl rfl rfl (by kernel_rfl) (by kernel_rfl) (by kernel_rfl) (fun _ _ _ h => h) rfl (q_same (v' := .bool false) (q_cmpS rfl rfl (by kernel_rfl) (cpv_eq_neq_apiSpan _ _ _ _)) (by simp [hz.1, hz.2.1])) ?_
      refine ah_take 28 (fun w9 hs => hs) rfl rfl rfl (by kernel_rfl) (by kernel_rfl) (by kernel_rfl) (fun _ _ _ h => h) rfl (q_move rfl) ?_
      refine ah_take 29 (fun w9 hs => hs) rfl rfl rfl (by kernel_rfl) (by kernel_rfl) (by kernel_rfl) (fun _ _ _ h => h) rfl (q_loadAll (i := 0) rfl rfl Try.isAgg38 Try.sizeOf38 rfl) ?_
      refine ah_take 30 (fun w9 hs => hs) rfl rfl rfl (by kernel_rfl) (by kernel_rfl) (by kernel_rfl) (fun _ _ _ h => h) rfl (q_build .nil (cpv_bl_apiSpan_)) ?_
      refine ah_take 31 (fun w9 hs => hs) rfl rfl rfl (by kernel_rfl) (by kernel_rfl) (by kernel_rfl) (fun _ _ _ h => h) rfl (q_same (v' := .bool false) (q_cmpS rfl rfl (by kernel_rfl) (cpv_eq_neq_apiSpan _ _ _ _)) (by simp [hz.2.2.1, hz.2.2.2])) ?_
      refine ah_take 32 (fun w9 hs => hs) rfl rfl rfl (by kernel_rfl) (by kernel_rfl) (by kernel_rfl) (fun _ _ _ h => h) rfl (q_pickF rfl rfl) ?_
      refine ah_take 33 (fun w9 hs => hs) rfl rfl rfl (by kernel_rfl) (by kernel_rfl) (by kernel_rfl) (fun _ _ _ h => h) rfl (q_pickT rfl rfl) ?_
      refine ah_take 34 (fun w9 hs => hs) rfl rfl rfl (by kernel_rfl) (by kernel_rfl) (by kernel_rfl) (fun _ _ _ h => h) rfl (q_pickF rfl rfl) ?_
      refine ah_done (by kernel_rfl) ?_
      refine aq_then ?_
      refine ac_condF rfl ?_
      refine ac_skip ?_
      refine aq_then ?_
      refine ac_seq ?_
      refine ac_region ?_
      refine al_q (q_move rfl) rfl rfl rfl ?_
      refine al_q (q_loadAll (i := 4) rfl rfl Try.isAgg34 Try.sizeOf34 rfl) rfl rfl rfl ?_
      refine al_q (q_loadAll (i := 3) rfl rfl Try.isAgg36 Try.sizeOf36 rfl) rfl rfl rfl ?_
      refine al_q (q_loadAll (i := 2) rfl rfl Try.isAgg40 Try.sizeOf40 rfl) rfl rfl rfl ?_
      refine al_call Try.call9 (.cons rfl (.cons rfl (.cons rfl (.cons rfl .nil)))) rfl rfl (fun w5 hs5 => ?_)
      refine (remember_any mo y0 y1 gr gz s _).mono ?_
      rintro e u5 ⟨rfl, hb_5⟩
      refine ⟨_, rfl, hb_5, ?_⟩
      clear hs5
      refine al_q (q_move rfl) rfl rfl rfl ?_
      refine al_q (q_extract rfl rfl) rfl rfl rfl ?_
      refine al_q (q_extract rfl rfl) rfl rfl rfl ?_
      refine al_new (fun b => .pointer (some ⟨b, 0, none⟩)) (r_alloc Try.zeroValue34 rfl) rfl rfl rfl ?_
      intro b8
      refine al_storeAll (i := 0) rfl rfl rfl rfl Try.sizeOf34 rfl rfl .k0 rfl ?_
      refine al_q (q_assign rfl) rfl rfl rfl ?_
      refine al_end ?_
      refine aq_then ?_
      refine ac_seq ?_
      refine ac_region ?_
      refine al_q (q_move rfl) rfl rfl rfl ?_
      refine al_q (q_loadAll (i := 5) rfl rfl Try.isAgg34 Try.sizeOf34 rfl) rfl rfl rfl ?_
      refine al_q (q_loadAll (i := 4) rfl rfl Try.isAgg36 Try.sizeOf36 rfl) rfl rfl rfl ?_
      refine al_q (q_loadAll (i := 3) rfl rfl Try.isAgg40 Try.sizeOf40 rfl) rfl rfl rfl ?_
      refine al_call Try.call13 (.cons rfl (.cons rfl (.cons rfl (.cons rfl .nil)))) rfl rfl (fun w6 hs6 => ?_)
      refine (rrememberN_any mo y0 y1 gr gz s _).mono ?_
      rintro e u6 ⟨rfl, hb_6⟩
      refine ⟨_, rfl, hb_6, ?_⟩
      clear hs6
      refine al_q (q_move rfl) rfl rfl rfl ?_
      refine al_q (q_extract rfl rfl) rfl rfl rfl ?_
      refine al_q (q_extract rfl rfl) rfl rfl rfl ?_
      refine al_new (fun b => .pointer (some ⟨b, 0, none⟩)) (r_alloc Try.zeroValue34 rfl) rfl rfl rfl ?_
      intro b9
      refine al_storeAll (i := 0) rfl rfl rfl rfl Try.sizeOf34 rfl rfl .k0 rfl ?_
      refine al_q (q_assign rfl) rfl rfl rfl ?_
      refine al_end ?_
      refine aq_then ?_
      refine ac_seq ?_
      refine ac_seq ?_
      refine ac_region ?_
      refine al_q (q_loadAll (i := 1) rfl rfl Try.isAgg34 Try.sizeOf34 rfl) rfl rfl rfl ?_
      refine al_q (q_loadAll (i := 0) rfl rfl Try.isAgg34 Try.sizeOf34 rfl) rfl rfl rfl ?_
      refine al_q (q_same (v' := .bool false) (q_cmpS rfl rfl (by kernel_rfl) (cpv_eq_neq_apiMemory _ _ _ _)) (by simp)) rfl rfl rfl ?_
      refine al_q (q_move rfl) rfl rfl rfl ?_
      refine al_q (q_move rfl) rfl rfl rfl ?_
      refine al_q (q_move rfl) rfl rfl rfl ?_
      refine al_q (q_same (v' := .bool false) (q_neq rfl rfl) (by simp)) rfl rfl rfl ?_
      refine al_q (q_pickF rfl rfl) rfl rfl rfl ?_
      refine al_end ?_
      refine aq_then ?_
      refine ac_condF rfl ?_
      refine ac_skip ?_
      refine aq_then ?_
      refine ac_seq ?_
      refine ac_region ?_
      refine al_q (q_loadAll (i := 8) rfl rfl Try.isAgg29 Try.sizeOf29 rfl) rfl rfl rfl ?_
      refine al_q (q_loadAll (i := 7) rfl rfl Try.isAgg32 Try.sizeOf32 rfl) rfl rfl rfl ?_
      refine al_q (q_loadAll (i := 6) rfl rfl Try.isAgg34 Try.sizeOf34 rfl) rfl rfl rfl ?_
      refine al_q (q_loadAll (i := 5) rfl rfl Try.isAgg36 Try.sizeOf36 rfl) rfl rfl rfl ?_
      refine al_q (q_loadAll (i := 4) rfl rfl Try.isAgg40 Try.sizeOf40 rfl) rfl rfl rfl ?_
      refine al_call Try.call10 (.cons rfl (.cons rfl (.cons rfl (.cons rfl (.cons rfl .nil))))) rfl rfl (fun w7 hs7 => ?_)
      refine (wishN_any R M G ng cg gs most y0 y1 gr gz s _ (hM.below hs7.below) (hG.below hs7.below) (by omega)).mono ?_
      rintro e u7 ⟨A3, d3, rfl, N3, hL3, hb_7⟩
      refine ⟨_, rfl, hb_7, ?_⟩
      clear hs7
      refine al_q (q_move rfl) rfl rfl rfl ?_
      refine al_q (q_extract rfl rfl) rfl rfl rfl ?_
      refine al_q (q_extract rfl rfl) rfl rfl rfl ?_
      refine al_q (q_assign rfl) rfl rfl rfl ?_
      refine al_q (q_assign rfl) rfl rfl rfl ?_
      refine al_end ?_
      refine aq_then ?_
      refine ac_seq ?_
      refine ac_region ?_
      refine al_q (q_loadAll (i := 8) rfl rfl Try.isAgg29 Try.sizeOf29 rfl) rfl rfl rfl ?_
      refine al_q (q_loadAll (i := 7) rfl rfl Try.isAgg32 Try.sizeOf32 rfl) rfl rfl rfl ?_
      refine al_q (q_loadAll (i := 6) rfl rfl Try.isAgg34 Try.sizeOf34 rfl) rfl rfl rfl ?_
      refine al_q (q_loadAll (i := 5) rfl rfl Try.isAgg36 Try.sizeOf36 rfl) rfl rfl rfl ?_
      refine al_q (q_loadAll (i := 4) rfl rfl Try.isAgg40 Try.sizeOf40 rfl) rfl rfl rfl ?_
      refine al_call Try.call14 (.cons rfl (.cons rfl (.cons rfl (.cons rfl (.cons rfl .nil))))) rfl rfl (fun w8 hs8 => ?_)
      refine (rwishN_any R M G ng cg gs most y0 y1 gr gz s _ (hM.below hs8.below) (hG.below hs8.below) (by omega)).mono ?_
      rintro e u8 ⟨A4, d4, rfl, N4, hL4, hb_8⟩
      refine ⟨_, rfl, hb_8, ?_⟩
      clear hs8
      refine al_q (q_move rfl) rfl rfl rfl ?_
      refine al_q (q_extract rfl rfl) rfl rfl rfl ?_
      refine al_q (q_extract rfl rfl) rfl rfl rfl ?_
      refine al_q (q_assign rfl) rfl rfl rfl ?_
      refine al_q (q_assign rfl) rfl rfl rfl ?_
      refine al_end ?_
      refine aq_then ?_
      refine ac_seq ?_
      refine ac_region ?_
      refine al_q (q_move rfl) rfl rfl rfl ?_
      refine al_q (q_move rfl) rfl rfl rfl ?_
      refine al_call Try.call11 (.cons rfl (.cons rfl .nil)) rfl rfl (fun w9 hs9 => ?_)
      refine (ints_any A3 A4 (wishT M gs most y0 y1 gr gz s).length d3 (wishT M gs most y0 y1 gr gz s).length d4 _ _ _ (hs9.newT (.tail _ (.head _)) N3) (hs9.newT (.head _) N4) (by omega) (by omega)).mono ?_
      rintro e u9 ⟨rfl, hb_9⟩
      refine ⟨_, rfl, hb_9, ?_⟩
      clear hs9
      refine al_q (q_same (v' := .bool true) (q_move rfl) (by simp)) rfl rfl rfl ?_
      refine al_q (q_move rfl) rfl rfl rfl ?_
      refine al_q (q_move rfl) rfl rfl rfl ?_
      refine al_q (q_same (v' := .bool true) (q_eql rfl rfl) (by simp)) rfl rfl rfl ?_
      refine al_q (q_pickT rfl rfl) rfl rfl rfl ?_
      refine al_q (q_assign rfl) rfl rfl rfl ?_
      refine al_end ?_
      refine aq_then ?_
      refine ac_ret ?_
      refine ret1 Try.results4 rfl (fun w9 hs => ?_)
      exact ⟨rfl, hs.below⟩

theorem wishes_walk (R : MachR) (M : MachD) (G : Option Addr) (ng cg : Nat) (gs : List GainD) (most y0 y1 gr gz : Int) (s : ShapeD) (mo : Int) (w : World) (hM : R.la ≤ 1000000000000000 → R.lb ≤ 1000000000000000 → R.lc ≤ 1000000000000000 → R.ld ≤ 1000000000000000 → IsM w R M) (hG : IsT 4 GainD.cells w G ng gs) : Calls Try.prog 4 #[.agg (machCells R M), .agg #[.slice G ng cg, .int .i64 most], .agg #[.int .i64 y0, .int .i64 y1], .agg #[.int .i64 gr, .int .i64 gz], s.v, .int .i64 mo] w (Ret (.bool true) w) := by
  by_cases he : (errL gr gz s).2.2.2.2 = 0
  · exact wishes_ok R M G ng cg gs most y0 y1 gr gz s mo w hM hG he
  · exact wishes_bad R M G ng cg gs most y0 y1 gr gz s mo w hM hG he

end Go.Proofs.Ytcdhanfjcnfjjaa
end
section
/- The frame of the laws over spans: how an argument that is a span or a Pair is opened and shut, over this seat's translation. -/
namespace Go.Proofs.Ytcdhanfjcnfjjaa
set_option linter.unusedVariables false
set_option linter.unusedSimpArgs false
set_option maxRecDepth 100000
open Go.ChangeShapes Go.WideShapes Go.ChangeAt Go.RowKit Go.Joins

theorem own : ownKnob Try.prog.godebug = none := by kernel_rfl

theorem cells_span : Try.prog.cellsOf 38 = 2 := by kernel_rfl

theorem cells_int : Try.prog.cellsOf 3 = 1 := by kernel_rfl

section
variable {H : Type} {enc : TypeId × Value → H}

end
end Go.Proofs.Ytcdhanfjcnfjjaa
end
section
/- The frame of the laws over pairs: how an argument that is a list of items of n cells is opened, over this seat's translation. -/
namespace Go.Proofs.Ytcdhanfjcnfjjaa
set_option linter.unusedVariables false
set_option linter.unusedSimpArgs false
set_option maxRecDepth 100000
open Go.ChangeShapes Go.WideShapes Go.ChangeAt Go.RowKit Go.Joins Go.Deep

section
variable {H : Type} {enc : TypeId × Value → H}

/-- A list that reads is a list of items, where each item that reads is one. -/
theorem open_isT {α : Type} {E : α → List Value} {n : Nat} (h0 : ∀ x, (E x).length = n) {t e : TypeId} {W : World} {b0 : Nat} {r : Reach} {v : Value} {d : DataW H} {p : List MemPlace}
    (ht : Try.prog.underlying t = some (.slice e)) (hc : Try.prog.cellsOf e = n) (hn : 0 < n)
    (dec : ∀ (fuel : Nat) (cs : List Value) (y : DataW H × List MemPlace), DataW.trod enc Try.prog W 0 (fun _ => true) true fuel e cs = some y → ∃ x : α, cs = E x)
    (hv : Value.okWide Try.prog W r b0 t v) (h : DataW.Trod enc Try.prog W 0 (fun _ => true) true t v d p) :
    ∃ (A : Option Addr) (len cap : Nat) (zs : List α), v = .slice A len cap ∧ IsT n E W A len zs ∧ len ≤ maxLen ∧ len ≤ cap ∧ cap ≤ maxLen := by
  obtain ⟨a, len, cap, rfl⟩ := okWide_slice ht hv
  obtain ⟨fuel, hf⟩ := h
  rcases open_slice ht hf with ⟨hcs, hx⟩ | ⟨a', len', cap', m, k, D, Pl, hcs, hb, hl, hm, hmm, hx, hi⟩
  · have hcs : [Value.slice a len cap] = [Value.slice none 0 0] := hcs
    injection hcs with hcs _
    injection hcs with e1 e2 e3
    subst e1 e2 e3
    exact ⟨_, _, _, [], rfl, IsT.nil _ _ _ _, Nat.zero_le _, Nat.zero_le _, Nat.zero_le _⟩
  · have hcs : [Value.slice a len cap] = [Value.slice (some a') len' cap'] := hcs
    injection hcs with hcs _
    injection hcs with e1 e2 e3
    subst e1 e2 e3
    simp only [if_true] at hmm
    subst hmm
    have each : ∀ i, i < len → ∃ x : α, ∀ j, j < n → W.cell? (a'.add (i * n + j)) = (E x)[j]? := fun i hil => by
      obtain ⟨cs', h1, h2⟩ := hi i (by omega)
      obtain ⟨x, rfl⟩ := dec _ _ _ h2
      rw [hc] at h1
      obtain ⟨_, _, hcell⟩ := World.cells?_some h1
      refine ⟨x, fun j hj => ?_⟩
      have := hcell j hj
      rwa [add_add] at this
    by_cases hz : len = 0
    · subst hz
      exact ⟨_, _, _, [], rfl, IsT.nil _ _ _ _, Nat.zero_le _, Nat.zero_le _, hm⟩
    · obtain ⟨x0, _⟩ := each 0 (by omega)
      haveI : Inhabited α := ⟨x0⟩
      obtain ⟨z, hz'⟩ := choose_lt each
      refine ⟨_, _, _, (List.range len).map z, rfl, ⟨by simp, fun _ => ?_⟩, Nat.le_trans hl hm, hl, hm⟩
      have c0 := hz' 0 (by omega) 0 hn
      obtain ⟨v0, hv0⟩ : ∃ v0, (E (z 0))[0]? = some v0 := ⟨_, List.getElem?_eq_getElem (by rw [h0]; exact hn)⟩
      rw [hv0] at c0
      have hlt := World.block_lt_of_cell? W _ c0
      have hsp := World.cell?_spot c0
      obtain ⟨b, off, spot⟩ := a'
      have hspot : spot = none := by simpa [Addr.add] using hsp
      subst hspot
      rw [block_add] at hlt
      refine ⟨b, off, rfl, hlt, fun j x hx i v hv => ?_⟩
      have hj : j < len := by
        have := (List.getElem?_eq_some_iff.1 hx).1
        simpa using this
      have hx' : x = z j := by
        rw [List.getElem?_map, List.getElem?_range hj] at hx
        simpa using hx.symm
      subst hx'
      have hin : i < n := by
        have := (List.getElem?_eq_some_iff.1 hv).1
        rwa [h0] at this
      have := hz' j hj i hin
      rw [add_plain, hv] at this
      rw [← this]
      congr 2
      omega

end
end Go.Proofs.Ytcdhanfjcnfjjaa
end
