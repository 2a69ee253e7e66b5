import Derived.Test.YtcdhanfjcnfjjaaJAA
import Derived.Test.YtcdhanfjcnfjjaaJAT
import Derived.Test.YtcdhanfjcnfjjaaJAW
import Derived.Test.YtcdhanfjcnfjjaaJAX
import Derived.Test.YtcdhanfjcnfjjaaJAY
import Derived.Test.YtcdhanfjcnfjjaaRows
import Derived.KernelRfl
import Derived.Laws.StructEq
import Derived.ProofKit
import Derived.OpenShut
import Derived.Lib.SmallJoins
section
/- The law ControlProved: its walk, over this seat's translation (written by ax_cp.py). -/
namespace Go.Proofs.Ytcdhanfjcnfjjaa
set_option linter.unusedVariables false
set_option linter.unusedSimpArgs false
open Go.RowKit

theorem remL_same {most y0 y1 gr gz : Int} {s t : ShapeD} (h1 : (errL gr gz s).2.2.2.2 = 0) (h2 : (errL gr gz t).2.2.2.2 = 0) (hp : provedL (errL gr gz s).1 (errL gr gz s).2.1 = provedL (errL gr gz t).1 (errL gr gz t).2.1)
    (hq : provedL (errL gr gz s).2.2.1 (errL gr gz s).2.2.2.1 = provedL (errL gr gz t).2.2.1 (errL gr gz t).2.2.2.1) : remL most y0 y1 gr gz s = remL most y0 y1 gr gz t := by
  unfold remL
  rw [h1, h2, hp, hq]
theorem wish_same {M : MachD} {gs : List GainD} {most y0 y1 gr gz : Int} {s t : ShapeD} (h1 : (errL gr gz s).2.2.2.2 = 0) (h2 : (errL gr gz t).2.2.2.2 = 0) (hp : provedL (errL gr gz s).1 (errL gr gz s).2.1 = provedL (errL gr gz t).1 (errL gr gz t).2.1)
    (hq : provedL (errL gr gz s).2.2.1 (errL gr gz s).2.2.2.1 = provedL (errL gr gz t).2.2.1 (errL gr gz t).2.2.2.1) : wishE M gs most y0 y1 gr gz s = wishE M gs most y0 y1 gr gz t ∧ wishT M gs most y0 y1 gr gz s = wishT M gs most y0 y1 gr gz t := by
  have e : wishE M gs most y0 y1 gr gz s = wishE M gs most y0 y1 gr gz t := by unfold wishE; rw [h1, h2]
  refine ⟨e, ?_⟩
  unfold wishT
  rw [e, hp, hq]
/-- Where nothing is proved and nothing remembered, nothing is wished. -/
theorem wish_zero {M : MachD} {gs : List GainD} {most gr gz : Int} {s : ShapeD} (hp : provedL (errL gr gz s).1 (errL gr gz s).2.1 = 0) (hq : provedL (errL gr gz s).2.2.1 (errL gr gz s).2.2.2.1 = 0) {k : Nat} {a : Int} (h : (wishT M gs most 0 0 gr gz s)[k]? = some a) : a = 0 := by
  unfold wishT at h
  split at h
  · rename_i he
    rw [hp, hq] at h
    have hs : setupB M gs most = true := by
      unfold wishE at he
      split at he
      · assumption
      · omega
    obtain ⟨hc, hgl, -, -, -⟩ := setupB_parts hs
    have hk := (List.getElem?_eq_some_iff.1 h).1
    rw [wishL_len hgl] at hk
    obtain ⟨c, hkc⟩ : ∃ c, M.coils[k]? = some c := ⟨_, List.getElem?_eq_getElem hk⟩
    obtain ⟨g, hkg⟩ : ∃ g, gs[k]? = some g := ⟨_, List.getElem?_eq_getElem (by omega)⟩
    rw [wishL_get hkc hkg] at h
    have st := steps_of hc hkc
    have h := Option.some.inj h
    unfold wish1 at h
    simp only [Int.mul_zero, Int.add_zero, Int.zero_tdiv] at h
    unfold cutL at h
    omega
  · cases h

set_option maxRecDepth 100000 in
theorem proved_err (R : MachR) (M : MachD) (G : Option Addr) (ng cg : Nat) (gs : List GainD) (most y0 y1 gr gz : Int) (s t : ShapeD) (w : World) (hM : R.la ≤ 1000000000000000 → R.lb ≤ 1000000000000000 → R.lc ≤ 1000000000000000 → R.ld ≤ 1000000000000000 → IsM w R M) (hG : IsT 4 GainD.cells w G ng gs) (he : ¬ ((errL gr gz s).2.2.2.2 = 0 ∧ (errL gr gz t).2.2.2.2 = 0)) : Calls Try.prog 3 #[(.agg (machCells R M)), (.agg #[.slice G ng cg, .int .i64 most]), (.agg #[.int .i64 y0, .int .i64 y1]), (.agg #[.int .i64 gr, .int .i64 gz]), s.v, t.v] w (Ret (.bool true) w) := by
  refine calls_ax (vs := [(.agg (machCells R M)), (.agg #[.slice G ng cg, .int .i64 most]), (.agg #[.int .i64 y0, .int .i64 y1]), (.agg #[.int .i64 gr, .int .i64 gz]), s.v, t.v]) Try.func3 rfl rfl ?_
  refine ac_seq ?_
  refine ac_region ?_
  refine al_new (fun b => .pointer (some ⟨b, 0, none⟩)) (r_box rfl rfl) rfl rfl rfl ?_
  intro b1
  refine al_new (fun b => .pointer (some ⟨b, 0, none⟩)) (r_box rfl rfl) rfl rfl rfl ?_
  intro b2
  refine al_new (fun b => .pointer (some ⟨b, 0, none⟩)) (r_box rfl rfl) rfl rfl rfl ?_
  intro b3
  refine al_new (fun b => .pointer (some ⟨b, 0, none⟩)) (r_box rfl rfl) rfl rfl rfl ?_
  intro b4
  refine al_new (fun b => .pointer (some ⟨b, 0, none⟩)) (r_box rfl rfl) rfl rfl rfl ?_
  intro b5
  refine al_new (fun b => .pointer (some ⟨b, 0, none⟩)) (r_box rfl rfl) rfl rfl rfl ?_
  intro b6
  refine al_q (q_assign rfl) rfl rfl rfl ?_
  refine al_end ?_
  refine aq_then ?_
  refine ac_seq ?_
  refine ac_seq ?_
  refine ac_region ?_
  refine al_call Try.call5 .nil rfl rfl (fun w1 hs1 => ?_)
  refine (awake7_any _).mono ?_
  rintro e u1 ⟨rfl, hb_1⟩
  refine ⟨_, rfl, hb_1, ?_⟩
  clear hs1
  refine al_q (q_not rfl) rfl rfl rfl ?_
  refine al_end ?_
  refine aq_then ?_
  refine ac_condF rfl ?_
  refine ac_skip ?_
  refine aq_then ?_
  refine ac_seq ?_
  refine ac_seq ?_
  refine ac_region ?_
  refine al_q (q_loadAll (i := 5) rfl rfl Try.isAgg29 Try.sizeOf29 rfl) rfl rfl rfl ?_
  refine al_call Try.call6 (.cons rfl .nil) rfl rfl (fun w2 hs2 => ?_)
  refine (large_any R M _).mono ?_
  rintro e u2 ⟨rfl, hb_2⟩
  refine ⟨_, rfl, hb_2, ?_⟩
  clear hs2
  refine al_q (q_move rfl) rfl rfl rfl ?_
  refine aq_split 28 rfl (fun hb1 => ?_) (fun hb1 => ?_)
  · skip
    refine al_skip rfl rfl rfl ?_
    refine al_skip rfl rfl rfl ?_
    refine al_skip rfl rfl rfl ?_
    refine al_skip rfl rfl rfl ?_
    refine al_q (q_pickT rfl rfl) rfl rfl rfl ?_
    refine al_end ?_
    refine aq_then ?_
    refine ac_condT rfl ?_
    refine ac_seq ?_
    refine ac_region ?_
    refine al_q (q_assign rfl) rfl rfl rfl ?_
    refine al_end ?_
    refine aq_then ?_
    refine ac_ret ?_
    refine aq_thenR ?_
    refine ret1 Try.results3 rfl (fun w9 hs => ?_)
    exact ⟨rfl, hs.below⟩
  · have hlg : largeB M R = false := by simpa using hb1
    obtain ⟨g1, g2, g3, g4, g5⟩ := largeB_bd hlg
    have hM := hM (by omega) (by omega) (by omega) (by omega)
    refine al_q (q_fieldAddr 0 rfl Try.runUnderlying32 rfl Try.sizeOf30 (by decide) rfl) rfl rfl rfl ?_
    refine al_q (q_load (i := 4) rfl rfl rfl Try.isAgg30) rfl rfl rfl ?_
    refine al_q (q_lenS rfl Try.runUnderlying30) rfl rfl rfl ?_
    refine al_q (q_gtr rfl rfl) rfl rfl rfl ?_
    refine al_q (q_pickF rfl rfl) rfl rfl rfl ?_
    refine al_end ?_
    refine aq_then ?_
    refine ac_cond rfl (fun h1 => ?_) (fun h1 => ?_)
    · skip
      refine ac_seq ?_
      refine ac_region ?_
      refine al_q (q_assign rfl) rfl rfl rfl ?_
      refine al_end ?_
      refine aq_then ?_
      refine ac_ret ?_
      refine aq_thenR ?_
      refine ret1 Try.results3 rfl (fun w9 hs => ?_)
      exact ⟨rfl, hs.below⟩
    · have hng : ¬ 20 < ng := by have := of_decide_eq_false h1; omega
      refine ac_skip ?_
      refine aq_then ?_
      refine ac_seq ?_
      refine ac_region ?_
      refine al_q (q_loadAll (i := 2) rfl rfl Try.isAgg36 Try.sizeOf36 rfl) rfl rfl rfl ?_
      refine al_q (q_loadAll (i := 1) rfl rfl Try.isAgg40 Try.sizeOf40 rfl) rfl rfl rfl ?_
      refine al_call Try.call7 (.cons rfl (.cons rfl .nil)) rfl rfl (fun w3 hs3 => ?_)
      refine (rerrN_any gr gz s _).mono ?_
      rintro e u3 ⟨A1, d1, rfl, N1, hb_3⟩
      refine ⟨_, rfl, hb_3, ?_⟩
      clear hs3
      refine al_q (q_move rfl) rfl rfl rfl ?_
      refine al_q (q_extract rfl rfl) rfl rfl rfl ?_
      refine al_q (q_extract rfl rfl) rfl rfl rfl ?_
      refine al_q (q_assign rfl) rfl rfl rfl ?_
      refine al_q (q_assign rfl) rfl rfl rfl ?_
      refine al_end ?_
      refine aq_then ?_
      refine ac_seq ?_
      refine ac_region ?_
      refine al_q (q_loadAll (i := 2) rfl rfl Try.isAgg36 Try.sizeOf36 rfl) rfl rfl rfl ?_
      refine al_q (q_loadAll (i := 0) rfl rfl Try.isAgg40 Try.sizeOf40 rfl) rfl rfl rfl ?_
      refine al_call Try.call7 (.cons rfl (.cons rfl .nil)) rfl rfl (fun w4 hs4 => ?_)
      refine (rerrN_any gr gz t _).mono ?_
      rintro e u4 ⟨A2, d2, rfl, N2, hb_4⟩
      refine ⟨_, rfl, hb_4, ?_⟩
      clear hs4
      refine al_q (q_move rfl) rfl rfl rfl ?_
      refine al_q (q_extract rfl rfl) rfl rfl rfl ?_
      refine al_q (q_extract rfl rfl) rfl rfl rfl ?_
      refine al_q (q_assign rfl) rfl rfl rfl ?_
      refine al_q (q_assign rfl) rfl rfl rfl ?_
      refine al_end ?_
      refine aq_then ?_
      refine ac_seq ?_
      refine ac_seq ?_
      refine ac_region ?_
      refine al_q (q_move rfl) rfl rfl rfl ?_
      refine al_q (q_neq rfl rfl) rfl rfl rfl ?_
      refine al_q (q_move rfl) rfl rfl rfl ?_
      refine aq_split 48 rfl (fun hb2 => ?_) (fun hb2 => ?_)
      · skip
        refine al_skip rfl rfl rfl ?_
        refine al_skip rfl rfl rfl ?_
        refine al_q (q_pickT rfl rfl) rfl rfl rfl ?_
        refine al_end ?_
        refine aq_then ?_
        refine ac_condT rfl ?_
        refine ac_seq ?_
        refine ac_region ?_
        refine al_q (q_assign rfl) rfl rfl rfl ?_
        refine al_end ?_
        refine aq_then ?_
        refine ac_ret ?_
        refine aq_thenR ?_
        refine ret1 Try.results3 rfl (fun w9 hs => ?_)
        exact ⟨rfl, hs.below⟩
      · have e1 : (errL gr gz s).2.2.2.2 = 0 := by simpa using hb2
        refine al_q (q_move rfl) rfl rfl rfl ?_
        refine al_q (q_neq rfl rfl) rfl rfl rfl ?_
        refine al_q (q_pickF rfl rfl) rfl rfl rfl ?_
        refine al_end ?_
        refine aq_then ?_
        refine ac_cond rfl (fun h2 => ?_) (fun h2 => ?_)
        · skip
          refine ac_seq ?_
          refine ac_region ?_
          refine al_q (q_assign rfl) rfl rfl rfl ?_
          refine al_end ?_
          refine aq_then ?_
          refine ac_ret ?_
          refine aq_thenR ?_
          refine ret1 Try.results3 rfl (fun w9 hs => ?_)
          exact ⟨rfl, hs.below⟩
        · exfalso
          have e2 : (errL gr gz t).2.2.2.2 = 0 := by simpa using h2
          exact he ⟨e1, e2⟩

set_option maxRecDepth 100000 in
theorem proved_other (R : MachR) (M : MachD) (G : Option Addr) (ng cg : Nat) (gs : List GainD) (most y0 y1 gr gz : Int) (s t : ShapeD) (w : World) (hM : R.la ≤ 1000000000000000 → R.lb ≤ 1000000000000000 → R.lc ≤ 1000000000000000 → R.ld ≤ 1000000000000000 → IsM w R M) (hG : IsT 4 GainD.cells w G ng gs) (he : (errL gr gz s).2.2.2.2 = 0 ∧ (errL gr gz t).2.2.2.2 = 0) (hd : ¬ ((provedL (errL gr gz s).1 (errL gr gz s).2.1) = (provedL (errL gr gz t).1 (errL gr gz t).2.1) ∧ (provedL (errL gr gz s).2.2.1 (errL gr gz s).2.2.2.1) = (provedL (errL gr gz t).2.2.1 (errL gr gz t).2.2.2.1))) : Calls Try.prog 3 #[(.agg (machCells R M)), (.agg #[.slice G ng cg, .int .i64 most]), (.agg #[.int .i64 y0, .int .i64 y1]), (.agg #[.int .i64 gr, .int .i64 gz]), s.v, t.v] w (Ret (.bool true) w) := by
  obtain ⟨x10, x11, ht1, hp1, hq1⟩ : ∃ x10 x11 : SpanD, errT gr gz s = [x10, x11] ∧ provedL x10.lo x10.hi = (provedL (errL gr gz s).1 (errL gr gz s).2.1) ∧ provedL x11.lo x11.hi = (provedL (errL gr gz s).2.2.1 (errL gr gz s).2.2.2.1) := ⟨⟨_, _⟩, ⟨_, _⟩, by unfold errT; rw [if_pos he.1], rfl, rfl⟩
  obtain ⟨x20, x21, ht2, hp2, hq2⟩ : ∃ x20 x21 : SpanD, errT gr gz t = [x20, x21] ∧ provedL x20.lo x20.hi = (provedL (errL gr gz t).1 (errL gr gz t).2.1) ∧ provedL x21.lo x21.hi = (provedL (errL gr gz t).2.2.1 (errL gr gz t).2.2.2.1) := ⟨⟨_, _⟩, ⟨_, _⟩, by unfold errT; rw [if_pos he.2], rfl, rfl⟩
  have hx10 : (errT gr gz s)[0]? = some x10 := by rw [ht1]; rfl
  have hx11 : (errT gr gz s)[1]? = some x11 := by rw [ht1]; rfl
  have hx20 : (errT gr gz t)[0]? = some x20 := by rw [ht2]; rfl
  have hx21 : (errT gr gz t)[1]? = some x21 := by rw [ht2]; rfl
  have hl1 : (errT gr gz s).length = 2 := by rw [ht1]; rfl
  have hl2 : (errT gr gz t).length = 2 := by rw [ht2]; rfl
  refine calls_ax (vs := [(.agg (machCells R M)), (.agg #[.slice G ng cg, .int .i64 most]), (.agg #[.int .i64 y0, .int .i64 y1]), (.agg #[.int .i64 gr, .int .i64 gz]), s.v, t.v]) Try.func3 rfl rfl ?_
  refine ac_seq ?_
  refine ac_region ?_
  refine al_new (fun b => .pointer (some ⟨b, 0, none⟩)) (r_box rfl rfl) rfl rfl rfl ?_
  intro b1
  refine al_new (fun b => .pointer (some ⟨b, 0, none⟩)) (r_box rfl rfl) rfl rfl rfl ?_
  intro b2
  refine al_new (fun b => .pointer (some ⟨b, 0, none⟩)) (r_box rfl rfl) rfl rfl rfl ?_
  intro b3
  refine al_new (fun b => .pointer (some ⟨b, 0, none⟩)) (r_box rfl rfl) rfl rfl rfl ?_
  intro b4
  refine al_new (fun b => .pointer (some ⟨b, 0, none⟩)) (r_box rfl rfl) rfl rfl rfl ?_
  intro b5
  refine al_new (fun b => .pointer (some ⟨b, 0, none⟩)) (r_box rfl rfl) rfl rfl rfl ?_
  intro b6
  refine al_q (q_assign rfl) rfl rfl rfl ?_
  refine al_end ?_
  refine aq_then ?_
  refine ac_seq ?_
  refine ac_seq ?_
  refine ac_region ?_
  refine al_call Try.call5 .nil rfl rfl (fun w1 hs1 => ?_)
  refine (awake7_any _).mono ?_
  rintro e u1 ⟨rfl, hb_1⟩
  refine ⟨_, rfl, hb_1, ?_⟩
  clear hs1
  refine al_q (q_not rfl) rfl rfl rfl ?_
  refine al_end ?_
  refine aq_then ?_
  refine ac_condF rfl ?_
  refine ac_skip ?_
  refine aq_then ?_
  refine ac_seq ?_
  refine ac_seq ?_
  refine ac_region ?_
  refine al_q (q_loadAll (i := 5) rfl rfl Try.isAgg29 Try.sizeOf29 rfl) rfl rfl rfl ?_
  refine al_call Try.call6 (.cons rfl .nil) rfl rfl (fun w2 hs2 => ?_)
  refine (large_any R M _).mono ?_
  rintro e u2 ⟨rfl, hb_2⟩
  refine ⟨_, rfl, hb_2, ?_⟩
  clear hs2
  refine al_q (q_move rfl) rfl rfl rfl ?_
  refine aq_split 28 rfl (fun hb1 => ?_) (fun hb1 => ?_)
  · skip
    refine al_skip rfl rfl rfl ?_
    refine al_skip rfl rfl rfl ?_
    refine al_skip rfl rfl rfl ?_
    refine al_skip rfl rfl rfl ?_
    refine al_q (q_pickT rfl rfl) rfl rfl rfl ?_
    refine al_end ?_
    refine aq_then ?_
    refine ac_condT rfl ?_
    refine ac_seq ?_
    refine ac_region ?_
    refine al_q (q_assign rfl) rfl rfl rfl ?_
    refine al_end ?_
    refine aq_then ?_
    refine ac_ret ?_
    refine aq_thenR ?_
    refine ret1 Try.results3 rfl (fun w9 hs => ?_)
    exact ⟨rfl, hs.below⟩
  · have hlg : largeB M R = false := by simpa using hb1
    obtain ⟨g1, g2, g3, g4, g5⟩ := largeB_bd hlg
    have hM := hM (by omega) (by omega) (by omega) (by omega)
    refine al_q (q_fieldAddr 0 rfl Try.runUnderlying32 rfl Try.sizeOf30 (by decide) rfl) rfl rfl rfl ?_
    refine al_q (q_load (i := 4) rfl rfl rfl Try.isAgg30) rfl rfl rfl ?_
    refine al_q (q_lenS rfl Try.runUnderlying30) rfl rfl rfl ?_
    refine al_q (q_gtr rfl rfl) rfl rfl rfl ?_
    refine al_q (q_pickF rfl rfl) rfl rfl rfl ?_
    refine al_end ?_
    refine aq_then ?_
    refine ac_cond rfl (fun h1 => ?_) (fun h1 => ?_)
    · skip
      refine ac_seq ?_
      refine ac_region ?_
      refine al_q (q_assign rfl) rfl rfl rfl ?_
      refine al_end ?_
      refine aq_then ?_
      refine ac_ret ?_
      refine aq_thenR ?_
      refine ret1 Try.results3 rfl (fun w9 hs => ?_)
      exact ⟨rfl, hs.below⟩
    · have hng : ¬ 20 < ng := by have := of_decide_eq_false h1; omega
      refine ac_skip ?_
      refine aq_then ?_
      refine ac_seq ?_
      refine ac_region ?_
      refine al_q (q_loadAll (i := 2) rfl rfl Try.isAgg36 Try.sizeOf36 rfl) rfl rfl rfl ?_
      refine al_q (q_loadAll (i := 1) rfl rfl Try.isAgg40 Try.sizeOf40 rfl) rfl rfl rfl ?_
      refine al_call Try.call7 (.cons rfl (.cons rfl .nil)) rfl rfl (fun w3 hs3 => ?_)
      refine (rerrN_any gr gz s _).mono ?_
      rintro e u3 ⟨A1, d1, rfl, N1, hb_3⟩
      obtain ⟨bo1, oo1, hA1, hlt1, hget1⟩ := N1.isT.2 (by rw [hl1]; decide)
      refine ⟨_, rfl, hb_3, ?_⟩
      clear hs3
      refine al_q (q_move rfl) rfl rfl rfl ?_
      refine al_q (q_extract rfl rfl) rfl rfl rfl ?_
      refine al_q (q_extract rfl rfl) rfl rfl rfl ?_
      refine al_q (q_assign rfl) rfl rfl rfl ?_
      refine al_q (q_assign rfl) rfl rfl rfl ?_
      refine al_end ?_
      refine aq_then ?_
      refine ac_seq ?_
      refine ac_region ?_
      refine al_q (q_loadAll (i := 2) rfl rfl Try.isAgg36 Try.sizeOf36 rfl) rfl rfl rfl ?_
      refine al_q (q_loadAll (i := 0) rfl rfl Try.isAgg40 Try.sizeOf40 rfl) rfl rfl rfl ?_
      refine al_call Try.call7 (.cons rfl (.cons rfl .nil)) rfl rfl (fun w4 hs4 => ?_)
      refine (rerrN_any gr gz t _).mono ?_
      rintro e u4 ⟨A2, d2, rfl, N2, hb_4⟩
      obtain ⟨bo2, oo2, hA2, hlt2, hget2⟩ := N2.isT.2 (by rw [hl2]; decide)
      refine ⟨_, rfl, hb_4, ?_⟩
      clear hs4
      refine al_q (q_move rfl) rfl rfl rfl ?_
      refine al_q (q_extract rfl rfl) rfl rfl rfl ?_
      refine al_q (q_extract rfl rfl) rfl rfl rfl ?_
      refine al_q (q_assign rfl) rfl rfl rfl ?_
      refine al_q (q_assign rfl) rfl rfl rfl ?_
      refine al_end ?_
      refine aq_then ?_
      refine ac_seq ?_
      refine ac_seq ?_
      refine ac_region ?_
      refine al_q (q_move rfl) rfl rfl rfl ?_
      refine al_q (q_same (v' := .bool false) (q_neq rfl rfl) (by rw [he.1]; simp)) rfl rfl rfl ?_
      refine al_q (q_move rfl) rfl rfl rfl ?_
      refine al_q (q_move rfl) rfl rfl rfl ?_
      refine al_q (q_same (v' := .bool false) (q_neq rfl rfl) (by rw [he.2]; simp)) rfl rfl rfl ?_
      refine al_q (q_pickF rfl rfl) rfl rfl rfl ?_
      refine al_end ?_
      refine aq_then ?_
      refine ac_condF rfl ?_
      refine ac_skip ?_
      refine aq_then ?_
      refine ac_seq ?_
      refine ac_draw 9 (by kernel_rfl) (by kernel_rfl) ?_
      refine ah_take 0 (fun w9 hs => hs) rfl rfl rfl (by kernel_rfl) (by kernel_rfl) (by kernel_rfl) (fun _ _ _ h => h) rfl (q_move rfl) ?_
      refine ah_take 1 (fun w9 hs => hs) rfl rfl rfl (by kernel_rfl) (by kernel_rfl) (by kernel_rfl) (fun _ _ _ h => h) rfl (q_indexAddrA (i := 0) (oo1 + 0 * 2 + 0) hA1 rfl rfl rfl (by omega) Try.runUnderlying43 Try.sizeOf38 rfl) ?_
      refine ah_take 2 (fun w9 hs => hs) rfl rfl rfl (by kernel_rfl) (by kernel_rfl) (by kernel_rfl) (fun _ _ _ h => h) rfl (q_loadXs (SpanD.cells x10) rfl Try.isAgg38 Try.sizeOf38 (fun w9 hs j9 v9 h9 => by rw [addr_add]; exact hs.cellOf (.tail _ (.head _)) (N1.new _ _ hA1) hlt1 (hget1 0 x10 hx10 j9 v9 h9)) rfl) ?_
      refine ah_take 4 (fun w9 hs => hs) rfl rfl rfl (by kernel_rfl) (by kernel_rfl) (by kernel_rfl) (fun _ _ _ h => h) rfl (q_move rfl) ?_
      refine ah_take 5 (fun w9 hs => hs) rfl rfl rfl (by kernel_rfl) (by kernel_rfl) (by kernel_rfl) (fun _ _ _ h => h) rfl (q_indexAddrA (i := 1) (oo1 + 1 * 2 + 0) hA1 rfl rfl rfl (by omega) Try.runUnderlying43 Try.sizeOf38 rfl) ?_
      refine ah_take 6 (fun w9 hs => hs) rfl rfl rfl (by kernel_rfl) (by kernel_rfl) (by kernel_rfl) (fun _ _ _ h => h) rfl (q_loadXs (SpanD.cells x11) rfl Try.isAgg38 Try.sizeOf38 (fun w9 hs j9 v9 h9 => by rw [addr_add]; exact hs.cellOf (.tail _ (.head _)) (N1.new _ _ hA1) hlt1 (hget1 1 x11 hx11 j9 v9 h9)) rfl) ?_
      refine ah_one 3 rfl (by kernel_rfl) (fun hok1 hcl1 => ?_)
      refine al_call Try.call8 (.cons rfl .nil) rfl rfl (fun w5 hs5 => ?_)
      refine (rproved_any x10.lo x10.hi _).mono ?_
      rintro e u5 ⟨rfl, hb_5⟩
      refine ⟨_, rfl, hb_5, ?_⟩
      clear hs5
      refine al_end (ah_back hok1 hcl1 (fun w9 hs => (hs.fewer 1 rfl)) ?_)
      refine ah_one 7 rfl (by kernel_rfl) (fun hok2 hcl2 => ?_)
      refine al_call Try.call8 (.cons rfl .nil) rfl rfl (fun w6 hs6 => ?_)
      refine (rproved_any x11.lo x11.hi _).mono ?_
      rintro e u6 ⟨rfl, hb_6⟩
      refine ⟨_, rfl, hb_6, ?_⟩
      clear hs6
      refine al_end (ah_back hok2 hcl2 (fun w9 hs => (hs.fewer 2 rfl)) ?_)
      refine ah_one 8 rfl (by kernel_rfl) (fun hok3 hcl3 => ?_)
      refine al_q (q_assign rfl) rfl rfl rfl ?_
      refine al_end (ah_back hok3 hcl3 (fun w9 hs => (hs.fewer 2 rfl)) ?_)
      refine ah_one 9 rfl (by kernel_rfl) (fun hok4 hcl4 => ?_)
      refine al_q (q_assign rfl) rfl rfl rfl ?_
      refine al_end (ah_last (by kernel_rfl) ?_)
      refine aq_then ?_
      refine ac_seq ?_
      refine ac_seq ?_
      refine ac_region ?_
      refine al_q (q_move rfl) rfl rfl rfl ?_
      refine al_q (q_move rfl) rfl rfl rfl ?_
      refine al_q (q_indexAddrA (i := 0) (oo2 + 0 * 2 + 0) hA2 rfl rfl rfl (by omega) Try.runUnderlying43 Try.sizeOf38 rfl) rfl rfl rfl ?_
      refine al_q (q_loadXs (SpanD.cells x20) rfl Try.isAgg38 Try.sizeOf38 (fun w9 hs j9 v9 h9 => by rw [addr_add]; exact hs.cellOf (.tail _ (.tail _ (.head _))) (N2.new _ _ hA2) hlt2 (hget2 0 x20 hx20 j9 v9 h9)) rfl) rfl rfl rfl ?_
      refine al_call Try.call8 (.cons rfl .nil) rfl rfl (fun w7 hs7 => ?_)
      refine (rproved_any x20.lo x20.hi _).mono ?_
      rintro e u7 ⟨rfl, hb_7⟩
      refine ⟨_, rfl, hb_7, ?_⟩
      clear hs7
      refine al_q (q_neq rfl rfl) rfl rfl rfl ?_
      refine al_q (q_move rfl) rfl rfl rfl ?_
      refine aq_split 66 rfl (fun hb2 => ?_) (fun hb2 => ?_)
      · skip
        refine al_skip rfl rfl rfl ?_
        refine al_skip rfl rfl rfl ?_
        refine al_skip rfl rfl rfl ?_
        refine al_skip rfl rfl rfl ?_
        refine al_skip rfl rfl rfl ?_
        refine al_skip rfl rfl rfl ?_
        refine al_q (q_pickT rfl rfl) rfl rfl rfl ?_
        refine al_end ?_
        refine aq_then ?_
        refine ac_condT rfl ?_
        refine ac_seq ?_
        refine ac_region ?_
        refine al_q (q_assign rfl) rfl rfl rfl ?_
        refine al_end ?_
        refine aq_then ?_
        refine ac_ret ?_
        refine aq_thenR ?_
        refine ret1 Try.results3 rfl (fun w9 hs => ?_)
        exact ⟨rfl, hs.below⟩
      · have hpp : provedL x10.lo x10.hi = provedL x20.lo x20.hi := by simpa using hb2
        refine al_q (q_move rfl) rfl rfl rfl ?_
        refine al_q (q_move rfl) rfl rfl rfl ?_
        refine al_q (q_indexAddrA (i := 1) (oo2 + 1 * 2 + 0) hA2 rfl rfl rfl (by omega) Try.runUnderlying43 Try.sizeOf38 rfl) rfl rfl rfl ?_
        refine al_q (q_loadXs (SpanD.cells x21) rfl Try.isAgg38 Try.sizeOf38 (fun w9 hs j9 v9 h9 => by rw [addr_add]; exact hs.cellOf (.tail _ (.tail _ (.tail _ (.head _)))) (N2.new _ _ hA2) hlt2 (hget2 1 x21 hx21 j9 v9 h9)) rfl) rfl rfl rfl ?_
        refine al_call Try.call8 (.cons rfl .nil) rfl rfl (fun w8 hs8 => ?_)
        refine (rproved_any x21.lo x21.hi _).mono ?_
        rintro e u8 ⟨rfl, hb_8⟩
        refine ⟨_, rfl, hb_8, ?_⟩
        clear hs8
        refine al_q (q_neq rfl rfl) rfl rfl rfl ?_
        refine al_q (q_pickF rfl rfl) rfl rfl rfl ?_
        refine al_end ?_
        refine aq_then ?_
        refine ac_cond rfl (fun h2 => ?_) (fun h2 => ?_)
        · skip
          refine ac_seq ?_
          refine ac_region ?_
          refine al_q (q_assign rfl) rfl rfl rfl ?_
          refine al_end ?_
          refine aq_then ?_
          refine ac_ret ?_
          refine aq_thenR ?_
          refine ret1 Try.results3 rfl (fun w9 hs => ?_)
          exact ⟨rfl, hs.below⟩
        · exfalso
          have hqq : provedL x11.lo x11.hi = provedL x21.lo x21.hi := by simpa using h2
          exact hd ⟨by rw [← hp1, ← hp2, hpp], by rw [← hq1, ← hq2, hqq]⟩

set_option maxRecDepth 100000 in
theorem cpl_eq_neq_apiMemory (a0 b0 : Int) (a1 b1 : Int) : ∀ w, (binOp .neq 34 (.agg #[.int .i64 a0, .int .i64 a1]) (.agg #[.int .i64 b0, .int .i64 b1])).run Try.prog w = .ok (.bool (!decide (a0 = b0 ∧ a1 = b1))) w := by
  intro w
  have e : binOp .neq 34 (.agg #[.int .i64 a0, .int .i64 a1]) (.agg #[.int .i64 b0, .int .i64 b1]) = (do pure (.bool (!(← Op.equal 34 (.agg #[.int .i64 a0, .int .i64 a1]) (.agg #[.int .i64 b0, .int .i64 b1])))) : Sem Value) := rfl
  have h : ∀ w, (Op.equal 34 (.agg #[.int .i64 a0, .int .i64 a1]) (.agg #[.int .i64 b0, .int .i64 b1])).run Try.prog w = .ok (decide (a0 = b0 ∧ a1 = b1)) w := by
    intro w
    show (Op.equalIn 10000 34 _ _).run _ w = _
    rw [run_equalIn_struct w 9999 34 _ _ (by kernel_rfl) (by kernel_rfl)]
    simp [Program.fieldsOf, Try.underlying34, Op.eqFields, go_sem, Try.underlying3, Try.isAgg3, Try.sizeOf3, str_eq]
    by_cases h0 : a0 = b0 <;> by_cases h1 : a1 = b1 <;> simp [h0, h1]
  rw [e]; simp [h]

theorem cpl_bl_apiMemory_ : ∀ w, (Instr.build 34 #[]).run Try.prog w = .ok (.agg #[(.int .i64 0), (.int .i64 0)]) w := by
  intro w; simp [Instr.build, Instr.fill, cells_agg, Try.runUnderlying34, Try.zeroValue34, Try.sizeOf3]

set_option maxRecDepth 100000 in
theorem cpl_eq_eql_apiMemory (a0 b0 : Int) (a1 b1 : Int) : ∀ w, (binOp .eql 34 (.agg #[.int .i64 a0, .int .i64 a1]) (.agg #[.int .i64 b0, .int .i64 b1])).run Try.prog w = .ok (.bool (decide (a0 = b0 ∧ a1 = b1))) w := by
  intro w
  have e : binOp .eql 34 (.agg #[.int .i64 a0, .int .i64 a1]) (.agg #[.int .i64 b0, .int .i64 b1]) = (do pure (.bool (← Op.equal 34 (.agg #[.int .i64 a0, .int .i64 a1]) (.agg #[.int .i64 b0, .int .i64 b1]))) : Sem Value) := rfl
  have h : ∀ w, (Op.equal 34 (.agg #[.int .i64 a0, .int .i64 a1]) (.agg #[.int .i64 b0, .int .i64 b1])).run Try.prog w = .ok (decide (a0 = b0 ∧ a1 = b1)) w := by
    intro w
    show (Op.equalIn 10000 34 _ _).run _ w = _
    rw [run_equalIn_struct w 9999 34 _ _ (by kernel_rfl) (by kernel_rfl)]
    simp [Program.fieldsOf, Try.underlying34, Op.eqFields, go_sem, Try.underlying3, Try.isAgg3, Try.sizeOf3, str_eq]
    by_cases h0 : a0 = b0 <;> by_cases h1 : a1 = b1 <;> simp [h0, h1]
  rw [e]; simp [h]

set_option maxRecDepth 100000 in
theorem proved_same (R : MachR) (M : MachD) (G : Option Addr) (ng cg : Nat) (gs : List GainD) (most y0 y1 gr gz : Int) (s t : ShapeD) (w : World) (hM : R.la ≤ 1000000000000000 → R.lb ≤ 1000000000000000 → R.lc ≤ 1000000000000000 → R.ld ≤ 1000000000000000 → IsM w R M) (hG : IsT 4 GainD.cells w G ng gs) (he : (errL gr gz s).2.2.2.2 = 0 ∧ (errL gr gz t).2.2.2.2 = 0) (hd : (provedL (errL gr gz s).1 (errL gr gz s).2.1) = (provedL (errL gr gz t).1 (errL gr gz t).2.1) ∧ (provedL (errL gr gz s).2.2.1 (errL gr gz s).2.2.2.1) = (provedL (errL gr gz t).2.2.1 (errL gr gz t).2.2.2.1)) : Calls Try.prog 3 #[(.agg (machCells R M)), (.agg #[.slice G ng cg, .int .i64 most]), (.agg #[.int .i64 y0, .int .i64 y1]), (.agg #[.int .i64 gr, .int .i64 gz]), s.v, t.v] w (Ret (.bool true) w) := by
  obtain ⟨x10, x11, ht1, hp1, hq1⟩ : ∃ x10 x11 : SpanD, errT gr gz s = [x10, x11] ∧ provedL x10.lo x10.hi = (provedL (errL gr gz s).1 (errL gr gz s).2.1) ∧ provedL x11.lo x11.hi = (provedL (errL gr gz s).2.2.1 (errL gr gz s).2.2.2.1) := ⟨⟨_, _⟩, ⟨_, _⟩, by unfold errT; rw [if_pos he.1], rfl, rfl⟩
  obtain ⟨x20, x21, ht2, hp2, hq2⟩ : ∃ x20 x21 : SpanD, errT gr gz t = [x20, x21] ∧ provedL x20.lo x20.hi = (provedL (errL gr gz t).1 (errL gr gz t).2.1) ∧ provedL x21.lo x21.hi = (provedL (errL gr gz t).2.2.1 (errL gr gz t).2.2.2.1) := ⟨⟨_, _⟩, ⟨_, _⟩, by unfold errT; rw [if_pos he.2], rfl, rfl⟩
  have hx10 : (errT gr gz s)[0]? = some x10 := by rw [ht1]; rfl
  have hx11 : (errT gr gz s)[1]? = some x11 := by rw [ht1]; rfl
  have hx20 : (errT gr gz t)[0]? = some x20 := by rw [ht2]; rfl
  have hx21 : (errT gr gz t)[1]? = some x21 := by rw [ht2]; rfl
  have hl1 : (errT gr gz s).length = 2 := by rw [ht1]; rfl
  have hl2 : (errT gr gz t).length = 2 := by rw [ht2]; rfl
  have hrs := remL_same (most := most) (y0 := y0) (y1 := y1) he.1 he.2 hd.1 hd.2
  have hws := wish_same (M := M) (gs := gs) (most := most) (y0 := y0) (y1 := y1) he.1 he.2 hd.1 hd.2
  refine calls_ax (vs := [(.agg (machCells R M)), (.agg #[.slice G ng cg, .int .i64 most]), (.agg #[.int .i64 y0, .int .i64 y1]), (.agg #[.int .i64 gr, .int .i64 gz]), s.v, t.v]) Try.func3 rfl rfl ?_
  refine ac_seq ?_
  refine ac_region ?_
  refine al_new (fun b => .pointer (some ⟨b, 0, none⟩)) (r_box rfl rfl) rfl rfl rfl ?_
  intro b1
  refine al_new (fun b => .pointer (some ⟨b, 0, none⟩)) (r_box rfl rfl) rfl rfl rfl ?_
  intro b2
  refine al_new (fun b => .pointer (some ⟨b, 0, none⟩)) (r_box rfl rfl) rfl rfl rfl ?_
  intro b3
  refine al_new (fun b => .pointer (some ⟨b, 0, none⟩)) (r_box rfl rfl) rfl rfl rfl ?_
  intro b4
  refine al_new (fun b => .pointer (some ⟨b, 0, none⟩)) (r_box rfl rfl) rfl rfl rfl ?_
  intro b5
  refine al_new (fun b => .pointer (some ⟨b, 0, none⟩)) (r_box rfl rfl) rfl rfl rfl ?_
  intro b6
  refine al_q (q_assign rfl) rfl rfl rfl ?_
  refine al_end ?_
  refine aq_then ?_
  refine ac_seq ?_
  refine ac_seq ?_
  refine ac_region ?_
  refine al_call Try.call5 .nil rfl rfl (fun w1 hs1 => ?_)
  refine (awake7_any _).mono ?_
  rintro e u1 ⟨rfl, hb_1⟩
  refine ⟨_, rfl, hb_1, ?_⟩
  clear hs1
  refine al_q (q_not rfl) rfl rfl rfl ?_
  refine al_end ?_
  refine aq_then ?_
  refine ac_condF rfl ?_
  refine ac_skip ?_
  refine aq_then ?_
  refine ac_seq ?_
  refine ac_seq ?_
  refine ac_region ?_
  refine al_q (q_loadAll (i := 5) rfl rfl Try.isAgg29 Try.sizeOf29 rfl) rfl rfl rfl ?_
  refine al_call Try.call6 (.cons rfl .nil) rfl rfl (fun w2 hs2 => ?_)
  refine (large_any R M _).mono ?_
  rintro e u2 ⟨rfl, hb_2⟩
  refine ⟨_, rfl, hb_2, ?_⟩
  clear hs2
  refine al_q (q_move rfl) rfl rfl rfl ?_
  refine aq_split 28 rfl (fun hb1 => ?_) (fun hb1 => ?_)
  · skip
    refine al_skip rfl rfl rfl ?_
    refine al_skip rfl rfl rfl ?_
    refine al_skip rfl rfl rfl ?_
    refine al_skip rfl rfl rfl ?_
    refine al_q (q_pickT rfl rfl) rfl rfl rfl ?_
    refine al_end ?_
    refine aq_then ?_
    refine ac_condT rfl ?_
    refine ac_seq ?_
    refine ac_region ?_
    refine al_q (q_assign rfl) rfl rfl rfl ?_
    refine al_end ?_
    refine aq_then ?_
    refine ac_ret ?_
    refine aq_thenR ?_
    refine ret1 Try.results3 rfl (fun w9 hs => ?_)
    exact ⟨rfl, hs.below⟩
  · have hlg : largeB M R = false := by simpa using hb1
    obtain ⟨g1, g2, g3, g4, g5⟩ := largeB_bd hlg
    have hM := hM (by omega) (by omega) (by omega) (by omega)
    refine al_q (q_fieldAddr 0 rfl Try.runUnderlying32 rfl Try.sizeOf30 (by decide) rfl) rfl rfl rfl ?_
    refine al_q (q_load (i := 4) rfl rfl rfl Try.isAgg30) rfl rfl rfl ?_
    refine al_q (q_lenS rfl Try.runUnderlying30) rfl rfl rfl ?_
    refine al_q (q_gtr rfl rfl) rfl rfl rfl ?_
    refine al_q (q_pickF rfl rfl) rfl rfl rfl ?_
    refine al_end ?_
    refine aq_then ?_
    refine ac_cond rfl (fun h1 => ?_) (fun h1 => ?_)
    · skip
      refine ac_seq ?_
      refine ac_region ?_
      refine al_q (q_assign rfl) rfl rfl rfl ?_
      refine al_end ?_
      refine aq_then ?_
      refine ac_ret ?_
      refine aq_thenR ?_
      refine ret1 Try.results3 rfl (fun w9 hs => ?_)
      exact ⟨rfl, hs.below⟩
    · have hng : ¬ 20 < ng := by have := of_decide_eq_false h1; omega
      refine ac_skip ?_
      refine aq_then ?_
      refine ac_seq ?_
      refine ac_region ?_
      refine al_q (q_loadAll (i := 2) rfl rfl Try.isAgg36 Try.sizeOf36 rfl) rfl rfl rfl ?_
      refine al_q (q_loadAll (i := 1) rfl rfl Try.isAgg40 Try.sizeOf40 rfl) rfl rfl rfl ?_
      refine al_call Try.call7 (.cons rfl (.cons rfl .nil)) rfl rfl (fun w3 hs3 => ?_)
      refine (rerrN_any gr gz s _).mono ?_
      rintro e u3 ⟨A1, d1, rfl, N1, hb_3⟩
      obtain ⟨bo1, oo1, hA1, hlt1, hget1⟩ := N1.isT.2 (by rw [hl1]; decide)
      refine ⟨_, rfl, hb_3, ?_⟩
      clear hs3
      refine al_q (q_move rfl) rfl rfl rfl ?_
      refine al_q (q_extract rfl rfl) rfl rfl rfl ?_
      refine al_q (q_extract rfl rfl) rfl rfl rfl ?_
      refine al_q (q_assign rfl) rfl rfl rfl ?_
      refine al_q (q_assign rfl) rfl rfl rfl ?_
      refine al_end ?_
      refine aq_then ?_
      refine ac_seq ?_
      refine ac_region ?_
      refine al_q (q_loadAll (i := 2) rfl rfl Try.isAgg36 Try.sizeOf36 rfl) rfl rfl rfl ?_
      refine al_q (q_loadAll (i := 0) rfl rfl Try.isAgg40 Try.sizeOf40 rfl) rfl rfl rfl ?_
      refine al_call Try.call7 (.cons rfl (.cons rfl .nil)) rfl rfl (fun w4 hs4 => ?_)
      refine (rerrN_any gr gz t _).mono ?_
      rintro e u4 ⟨A2, d2, rfl, N2, hb_4⟩
      obtain ⟨bo2, oo2, hA2, hlt2, hget2⟩ := N2.isT.2 (by rw [hl2]; decide)
      refine ⟨_, rfl, hb_4, ?_⟩
      clear hs4
      refine al_q (q_move rfl) rfl rfl rfl ?_
      refine al_q (q_extract rfl rfl) rfl rfl rfl ?_
      refine al_q (q_extract rfl rfl) rfl rfl rfl ?_
      refine al_q (q_assign rfl) rfl rfl rfl ?_
      refine al_q (q_assign rfl) rfl rfl rfl ?_
      refine al_end ?_
      refine aq_then ?_
      refine ac_seq ?_
      refine ac_seq ?_
      refine ac_region ?_
      refine al_q (q_move rfl) rfl rfl rfl ?_
      refine al_q (q_same (v' := .bool false) (q_neq rfl rfl) (by rw [he.1]; simp)) rfl rfl rfl ?_
      refine al_q (q_move rfl) rfl rfl rfl ?_
      refine al_q (q_move rfl) rfl rfl rfl ?_
      refine al_q (q_same (v' := .bool false) (q_neq rfl rfl) (by rw [he.2]; simp)) rfl rfl rfl ?_
      refine al_q (q_pickF rfl rfl) rfl rfl rfl ?_
      refine al_end ?_
      refine aq_then ?_
      refine ac_condF rfl ?_
      refine ac_skip ?_
      refine aq_then ?_
      refine ac_seq ?_
      refine ac_draw 9 (by kernel_rfl) (by kernel_rfl) ?_
      refine ah_take 0 (fun w9 hs => hs) rfl rfl rfl (by kernel_rfl) (by kernel_rfl) (by kernel_rfl) (fun _ _ _ h => h) rfl (q_move rfl) ?_
      refine ah_take 1 (fun w9 hs => hs) rfl rfl rfl (by kernel_rfl) (by kernel_rfl) (by kernel_rfl) (fun _ _ _ h => h) rfl (q_indexAddrA (i := 0) (oo1 + 0 * 2 + 0) hA1 rfl rfl rfl (by omega) Try.runUnderlying43 Try.sizeOf38 rfl) ?_
      refine ah_take 2 (fun w9 hs => hs) rfl rfl rfl (by kernel_rfl) (by kernel_rfl) (by kernel_rfl) (fun _ _ _ h => h) rfl (q_loadXs (SpanD.cells x10) rfl Try.isAgg38 Try.sizeOf38 (fun w9 hs j9 v9 h9 => by rw [addr_add]; exact hs.cellOf (.tail _ (.head _)) (N1.new _ _ hA1) hlt1 (hget1 0 x10 hx10 j9 v9 h9)) rfl) ?_
      refine ah_take 4 (fun w9 hs => hs) rfl rfl rfl (by kernel_rfl) (by kernel_rfl) (by kernel_rfl) (fun _ _ _ h => h) rfl (q_move rfl) ?_
      refine ah_take 5 (fun w9 hs => hs) rfl rfl rfl (by kernel_rfl) (by kernel_rfl) (by kernel_rfl) (fun _ _ _ h => h) rfl (q_indexAddrA (i := 1) (oo1 + 1 * 2 + 0) hA1 rfl rfl rfl (by omega) Try.runUnderlying43 Try.sizeOf38 rfl) ?_
      refine ah_take 6 (fun w9 hs => hs) rfl rfl rfl (by kernel_rfl) (by kernel_rfl) (by kernel_rfl) (fun _ _ _ h => h) rfl (q_loadXs (SpanD.cells x11) rfl Try.isAgg38 Try.sizeOf38 (fun w9 hs j9 v9 h9 => by rw [addr_add]; exact hs.cellOf (.tail _ (.head _)) (N1.new _ _ hA1) hlt1 (hget1 1 x11 hx11 j9 v9 h9)) rfl) ?_
      refine ah_one 3 rfl (by kernel_rfl) (fun hok1 hcl1 => ?_)
      refine al_call Try.call8 (.cons rfl .nil) rfl rfl (fun w5 hs5 => ?_)
      refine (rproved_any x10.lo x10.hi _).mono ?_
      rintro e u5 ⟨rfl, hb_5⟩
      refine ⟨_, rfl, hb_5, ?_⟩
      clear hs5
      refine al_end (ah_back hok1 hcl1 (fun w9 hs => (hs.fewer 1 rfl)) ?_)
      refine ah_one 7 rfl (by kernel_rfl) (fun hok2 hcl2 => ?_)
      refine al_call Try.call8 (.cons rfl .nil) rfl rfl (fun w6 hs6 => ?_)
      refine (rproved_any x11.lo x11.hi _).mono ?_
      rintro e u6 ⟨rfl, hb_6⟩
      refine ⟨_, rfl, hb_6, ?_⟩
      clear hs6
      refine al_end (ah_back hok2 hcl2 (fun w9 hs => (hs.fewer 2 rfl)) ?_)
      refine ah_one 8 rfl (by kernel_rfl) (fun hok3 hcl3 => ?_)
      refine al_q (q_assign rfl) rfl rfl rfl ?_
      refine al_end (ah_back hok3 hcl3 (fun w9 hs => (hs.fewer 2 rfl)) ?_)
      refine ah_one 9 rfl (by kernel_rfl) (fun hok4 hcl4 => ?_)
      refine al_q (q_assign rfl) rfl rfl rfl ?_
      refine al_end (ah_last (by kernel_rfl) ?_)
      refine aq_then ?_
      refine ac_seq ?_
      refine ac_seq ?_
      refine ac_region ?_
      refine al_q (q_move rfl) rfl rfl rfl ?_
      refine al_q (q_move rfl) rfl rfl rfl ?_
      refine al_q (q_indexAddrA (i := 0) (oo2 + 0 * 2 + 0) hA2 rfl rfl rfl (by omega) Try.runUnderlying43 Try.sizeOf38 rfl) rfl rfl rfl ?_
      refine al_q (q_loadXs (SpanD.cells x20) rfl Try.isAgg38 Try.sizeOf38 (fun w9 hs j9 v9 h9 => by rw [addr_add]; exact hs.cellOf (.tail _ (.tail _ (.head _))) (N2.new _ _ hA2) hlt2 (hget2 0 x20 hx20 j9 v9 h9)) rfl) rfl rfl rfl ?_
      refine al_call Try.call8 (.cons rfl .nil) rfl rfl (fun w7 hs7 => ?_)
      refine (rproved_any x20.lo x20.hi _).mono ?_
      rintro e u7 ⟨rfl, hb_7⟩
      refine ⟨_, rfl, hb_7, ?_⟩
      clear hs7
      refine al_q (q_same (v' := .bool false) (q_neq rfl rfl) (by rw [hp1, hp2, hd.1]; simp)) rfl rfl rfl ?_
      refine al_q (q_move rfl) rfl rfl rfl ?_
      refine al_q (q_move rfl) rfl rfl rfl ?_
      refine al_q (q_move rfl) rfl rfl rfl ?_
      refine al_q (q_indexAddrA (i := 1) (oo2 + 1 * 2 + 0) hA2 rfl rfl rfl (by omega) Try.runUnderlying43 Try.sizeOf38 rfl) rfl rfl rfl ?_
      refine al_q (q_loadXs (SpanD.cells x21) rfl Try.isAgg38 Try.sizeOf38 (fun w9 hs j9 v9 h9 => by rw [addr_add]; exact hs.cellOf (.tail _ (.tail _ (.tail _ (.head _)))) (N2.new _ _ hA2) hlt2 (hget2 1 x21 hx21 j9 v9 h9)) rfl) rfl rfl rfl ?_
      refine al_call Try.call8 (.cons rfl .nil) rfl rfl (fun w8 hs8 => ?_)
      refine (rproved_any x21.lo x21.hi _).mono ?_
      rintro e u8 ⟨rfl, hb_8⟩
      refine ⟨_, rfl, hb_8, ?_⟩
      clear hs8
      refine al_q (q_same (v' := .bool false) (q_neq rfl rfl) (by rw [hq1, hq2, hd.2]; simp)) rfl rfl rfl ?_
      refine al_q (q_pickF rfl rfl) rfl rfl rfl ?_
      refine al_end ?_
      refine aq_then ?_
      refine ac_condF rfl ?_
      refine ac_skip ?_
      refine aq_then ?_
      refine ac_seq ?_
      refine ac_region ?_
      refine al_q (q_fieldAddr 1 rfl Try.runUnderlying32 rfl Try.sizeOf3 (by decide) rfl) rfl rfl rfl ?_
      refine al_q (q_load (i := 4) rfl rfl rfl Try.isAgg3) rfl rfl rfl ?_
      refine al_q (q_loadAll (i := 3) rfl rfl Try.isAgg34 Try.sizeOf34 rfl) rfl rfl rfl ?_
      refine al_q (q_loadAll (i := 2) rfl rfl Try.isAgg36 Try.sizeOf36 rfl) rfl rfl rfl ?_
      refine al_q (q_loadAll (i := 1) rfl rfl Try.isAgg40 Try.sizeOf40 rfl) rfl rfl rfl ?_
      refine al_call Try.call9 (.cons rfl (.cons rfl (.cons rfl (.cons rfl .nil)))) rfl rfl (fun w9 hs9 => ?_)
      refine (remember_any most y0 y1 gr gz s _).mono ?_
      rintro e u9 ⟨rfl, hb_9⟩
      refine ⟨_, rfl, hb_9, ?_⟩
      clear hs9
      refine al_q (q_move rfl) rfl rfl rfl ?_
      refine al_q (q_extract rfl rfl) rfl rfl rfl ?_
      refine al_q (q_extract rfl rfl) rfl rfl rfl ?_
      refine al_new (fun b => .pointer (some ⟨b, 0, none⟩)) (r_alloc Try.zeroValue34 rfl) rfl rfl rfl ?_
      intro b7
      refine al_storeAll (i := 0) rfl rfl rfl rfl Try.sizeOf34 rfl rfl .k0 rfl ?_
      refine al_q (q_assign rfl) rfl rfl rfl ?_
      refine al_end ?_
      refine aq_then ?_
      refine ac_seq ?_
      refine ac_region ?_
      refine al_q (q_fieldAddr 1 rfl Try.runUnderlying32 rfl Try.sizeOf3 (by decide) rfl) rfl rfl rfl ?_
      refine al_q (q_load (i := 5) rfl rfl rfl Try.isAgg3) rfl rfl rfl ?_
      refine al_q (q_loadAll (i := 4) rfl rfl Try.isAgg34 Try.sizeOf34 rfl) rfl rfl rfl ?_
      refine al_q (q_loadAll (i := 3) rfl rfl Try.isAgg36 Try.sizeOf36 rfl) rfl rfl rfl ?_
      refine al_q (q_loadAll (i := 1) rfl rfl Try.isAgg40 Try.sizeOf40 rfl) rfl rfl rfl ?_
      refine al_call Try.call9 (.cons rfl (.cons rfl (.cons rfl (.cons rfl .nil)))) rfl rfl (fun w10 hs10 => ?_)
      have h9 := remember_any most y0 y1 gr gz t w10
      rw [← hrs] at h9
      refine (h9).mono ?_
      rintro e u10 ⟨rfl, hb_10⟩
      refine ⟨_, rfl, hb_10, ?_⟩
      clear hs10
      refine al_q (q_move rfl) rfl rfl rfl ?_
      refine al_q (q_extract rfl rfl) rfl rfl rfl ?_
      refine al_q (q_extract rfl rfl) rfl rfl rfl ?_
      refine al_new (fun b => .pointer (some ⟨b, 0, none⟩)) (r_alloc Try.zeroValue34 rfl) rfl rfl rfl ?_
      intro b8
      refine al_storeAll (i := 0) rfl rfl rfl rfl Try.sizeOf34 rfl rfl .k0 rfl ?_
      refine al_q (q_assign rfl) rfl rfl rfl ?_
      refine al_end ?_
      refine aq_then ?_
      refine ac_seq ?_
      refine ac_seq ?_
      refine ac_region ?_
      refine al_q (q_loadAll (i := 1) rfl rfl Try.isAgg34 Try.sizeOf34 rfl) rfl rfl rfl ?_
      refine al_q (q_loadAll (i := 0) rfl rfl Try.isAgg34 Try.sizeOf34 rfl) rfl rfl rfl ?_
      refine al_q (q_same (v' := .bool false) (q_cmpS rfl rfl (by kernel_rfl) (cpl_eq_neq_apiMemory _ _ _ _)) (by simp)) rfl rfl rfl ?_
      refine al_q (q_move rfl) rfl rfl rfl ?_
      refine al_q (q_move rfl) rfl rfl rfl ?_
      refine al_q (q_move rfl) rfl rfl rfl ?_
      refine al_q (q_same (v' := .bool false) (q_neq rfl rfl) (by simp)) rfl rfl rfl ?_
      refine al_q (q_pickF rfl rfl) rfl rfl rfl ?_
      refine al_end ?_
      refine aq_then ?_
      refine ac_condF rfl ?_
      refine ac_skip ?_
      refine aq_then ?_
      refine ac_seq ?_
      refine ac_region ?_
      refine al_q (q_loadAll (i := 7) rfl rfl Try.isAgg29 Try.sizeOf29 rfl) rfl rfl rfl ?_
      refine al_q (q_loadAll (i := 6) rfl rfl Try.isAgg32 Try.sizeOf32 rfl) rfl rfl rfl ?_
      refine al_q (q_loadAll (i := 5) rfl rfl Try.isAgg34 Try.sizeOf34 rfl) rfl rfl rfl ?_
      refine al_q (q_loadAll (i := 4) rfl rfl Try.isAgg36 Try.sizeOf36 rfl) rfl rfl rfl ?_
      refine al_q (q_loadAll (i := 3) rfl rfl Try.isAgg40 Try.sizeOf40 rfl) rfl rfl rfl ?_
      refine al_call Try.call10 (.cons rfl (.cons rfl (.cons rfl (.cons rfl (.cons rfl .nil))))) rfl rfl (fun w11 hs11 => ?_)
      refine (wishN_any R M G ng cg gs most y0 y1 gr gz s _ (hM.below hs11.below) (hG.below hs11.below) (by omega)).mono ?_
      rintro e u11 ⟨A3, d3, rfl, N3, hL3, hb_11⟩
      refine ⟨_, rfl, hb_11, ?_⟩
      clear hs11
      refine al_q (q_move rfl) rfl rfl rfl ?_
      refine al_q (q_extract rfl rfl) rfl rfl rfl ?_
      refine al_q (q_extract rfl rfl) rfl rfl rfl ?_
      refine al_q (q_assign rfl) rfl rfl rfl ?_
      refine al_q (q_assign rfl) rfl rfl rfl ?_
      refine al_end ?_
      refine aq_then ?_
      refine ac_seq ?_
      refine ac_region ?_
      refine al_q (q_loadAll (i := 7) rfl rfl Try.isAgg29 Try.sizeOf29 rfl) rfl rfl rfl ?_
      refine al_q (q_loadAll (i := 6) rfl rfl Try.isAgg32 Try.sizeOf32 rfl) rfl rfl rfl ?_
      refine al_q (q_loadAll (i := 5) rfl rfl Try.isAgg34 Try.sizeOf34 rfl) rfl rfl rfl ?_
      refine al_q (q_loadAll (i := 4) rfl rfl Try.isAgg36 Try.sizeOf36 rfl) rfl rfl rfl ?_
      refine al_q (q_loadAll (i := 2) rfl rfl Try.isAgg40 Try.sizeOf40 rfl) rfl rfl rfl ?_
      refine al_call Try.call10 (.cons rfl (.cons rfl (.cons rfl (.cons rfl (.cons rfl .nil))))) rfl rfl (fun w12 hs12 => ?_)
      have h9 := wishN_any R M G ng cg gs most y0 y1 gr gz t w12 (hM.below hs12.below) (hG.below hs12.below) (by omega)
      rw [← hws.1, ← hws.2] at h9
      refine (h9).mono ?_
      rintro e u12 ⟨A4, d4, rfl, N4, hL4, hb_12⟩
      refine ⟨_, rfl, hb_12, ?_⟩
      clear hs12
      refine al_q (q_move rfl) rfl rfl rfl ?_
      refine al_q (q_extract rfl rfl) rfl rfl rfl ?_
      refine al_q (q_extract rfl rfl) rfl rfl rfl ?_
      refine al_q (q_assign rfl) rfl rfl rfl ?_
      refine al_q (q_assign rfl) rfl rfl rfl ?_
      refine al_end ?_
      refine aq_then ?_
      refine ac_seq ?_
      refine ac_seq ?_
      refine ac_region ?_
      refine al_q (q_move rfl) rfl rfl rfl ?_
      refine al_q (q_move rfl) rfl rfl rfl ?_
      refine al_call Try.call11 (.cons rfl (.cons rfl .nil)) rfl rfl (fun w13 hs13 => ?_)
      refine (ints_any A3 A4 (wishT M gs most y0 y1 gr gz s).length d3 (wishT M gs most y0 y1 gr gz s).length d4 _ _ _ (hs13.newT (.tail _ (.head _)) N3) (hs13.newT (.head _) N4) (by omega) (by omega)).mono ?_
      rintro e u13 ⟨rfl, hb_13⟩
      refine ⟨_, rfl, hb_13, ?_⟩
      clear hs13
      refine al_q (q_same (v' := .bool false) (q_not rfl) (by simp)) rfl rfl rfl ?_
      refine al_q (q_move rfl) rfl rfl rfl ?_
      refine al_q (q_move rfl) rfl rfl rfl ?_
      refine al_q (q_move rfl) rfl rfl rfl ?_
      refine al_q (q_same (v' := .bool false) (q_neq rfl rfl) (by simp)) rfl rfl rfl ?_
      refine al_q (q_pickF rfl rfl) rfl rfl rfl ?_
      refine al_end ?_
      refine aq_then ?_
      refine ac_condF rfl ?_
      refine ac_skip ?_
      refine aq_then ?_
      refine ac_seq ?_
      refine ac_seq ?_
      refine ac_region ?_
      refine al_q (q_assign rfl) rfl rfl rfl ?_
      refine al_end ?_
      refine aq_then ?_
      refine ac_block ?_
      refine ac_loop (β := Nat) (fun k => k ≤ (wishT M gs most y0 y1 gr gz s).length) (fun k => [(8, (.pointer (some ⟨b3, 0, none⟩))), (12, (.bool false)), (17, (.int .i64 (provedL x10.lo x10.hi))), (18, (.int .i64 (provedL x11.lo x11.hi))), (21, (.slice A3 (wishT M gs most y0 y1 gr gz s).length d3)), (23, (.int .i64 (k : Int)))]) (fun _ => _) (fun k => [(b8, _), (b7, _), (b6, _), (b5, _), (b4, _), (b3, _), (b2, _), (b1, _)]) (fun k => (wishT M gs most y0 y1 gr gz s).length - k) 0 (by omega) ⟨rfl, rfl, rfl, rfl, rfl, rfl, trivial⟩ (fun w9 hs => hs) (fun k hF1 => ?_)
      refine ac_seq ?_
      refine ac_seq ?_
      refine ac_region ?_
      refine al_q (q_move rfl) rfl rfl rfl ?_
      refine al_q (q_move rfl) rfl rfl rfl ?_
      refine al_q (q_lenS rfl Try.runUnderlying50) rfl rfl rfl ?_
      refine al_q (q_lss rfl rfl) rfl rfl rfl ?_
      refine al_end ?_
      refine aq_then ?_
      refine ac_cond rfl (fun h2 => ?_) (fun h2 => ?_)
      · have hkl : k < (wishT M gs most y0 y1 gr gz s).length := by have := of_decide_eq_true h2; omega
        obtain ⟨bo3, oo3, hA3, hlt3, hget3⟩ := N3.isT.2 (by omega)
        obtain ⟨x, hx⟩ : ∃ x, (wishT M gs most y0 y1 gr gz s)[k]? = some x := ⟨_, List.getElem?_eq_getElem hkl⟩
        refine ac_skip ?_
        refine aq_then ?_
        refine ac_seq ?_
        refine ac_block ?_
        refine ac_seq ?_
        refine ac_region ?_
        refine al_q (q_move rfl) rfl rfl rfl ?_
        refine al_q (q_eql rfl rfl) rfl rfl rfl ?_
        refine al_q (q_move rfl) rfl rfl rfl ?_
        refine aq_split 135 rfl (fun hb2 => ?_) (fun hb2 => ?_)
        · have hpz : provedL x10.lo x10.hi = 0 := by simpa using hb2
          refine al_q (q_move rfl) rfl rfl rfl ?_
          refine al_q (q_eql rfl rfl) rfl rfl rfl ?_
          refine al_q (q_pickT rfl rfl) rfl rfl rfl ?_
          refine al_q (q_move rfl) rfl rfl rfl ?_
          refine aq_split 139 rfl (fun hb3 => ?_) (fun hb3 => ?_)
          · have hqz : provedL x11.lo x11.hi = 0 := by simpa using hb3
            refine al_q (q_loadAll (i := 5) rfl rfl Try.isAgg34 Try.sizeOf34 rfl) rfl rfl rfl ?_
            refine al_q (q_build .nil (cpl_bl_apiMemory_)) rfl rfl rfl ?_
            refine al_q (q_cmpS rfl rfl (by kernel_rfl) (cpl_eq_eql_apiMemory _ _ _ _)) rfl rfl rfl ?_
            refine al_q (q_pickT rfl rfl) rfl rfl rfl ?_
            refine al_q (q_move rfl) rfl rfl rfl ?_
            refine aq_split 144 rfl (fun hb4 => ?_) (fun hb4 => ?_)
            · have hyz : y0 = 0 ∧ y1 = 0 := of_decide_eq_true hb4
              refine al_q (q_move rfl) rfl rfl rfl ?_
              refine al_q (q_move rfl) rfl rfl rfl ?_
              refine al_q (q_indexAddrA (i := k) (oo3 + k * 1 + 0) hA3 rfl rfl rfl (by omega) Try.runUnderlying50 Try.sizeOf3 rfl) rfl rfl rfl ?_
              refine al_q (q_loadX rfl Try.isAgg3 (fun w9 hs => hs.cellOf (.tail _ (.tail _ (.head _))) (N3.new _ _ hA3) hlt3 (hget3 k x hx 0 _ rfl))) rfl rfl rfl ?_
              refine al_q (q_same (v' := .bool false) (q_neq rfl rfl) (by obtain ⟨z0, z1⟩ := hyz; rw [z0, z1] at hx; rw [wish_zero (hp1 ▸ hpz) (hq1 ▸ hqz) hx]; simp)) rfl rfl rfl ?_
              refine al_q (q_pickT rfl rfl) rfl rfl rfl ?_
              refine al_end ?_
              refine aq_then ?_
              refine ac_condF rfl ?_
              refine ac_skip ?_
              refine aq_inN ?_
              refine aq_then ?_
              refine ac_region ?_
              refine al_q (q_move rfl) rfl rfl rfl ?_
              refine al_q (q_add rfl rfl (by omega)) rfl rfl rfl ?_
              refine al_q (q_assign rfl) rfl rfl rfl ?_
              refine al_end ?_
              refine aq_then ?_
              skip
              refine aq_round (k + 1) (by omega) (by omega) ⟨rfl, rfl, rfl, rfl, rfl, rfl, trivial⟩ (fun w9 hs => hs)
            · skip
              refine al_skip rfl rfl rfl ?_
              refine al_skip rfl rfl rfl ?_
              refine al_skip rfl rfl rfl ?_
              refine al_skip rfl rfl rfl ?_
              refine al_skip rfl rfl rfl ?_
              refine al_q (q_pickF rfl rfl) rfl rfl rfl ?_
              refine al_end ?_
              refine aq_then ?_
              refine ac_condF rfl ?_
              refine ac_skip ?_
              refine aq_inN ?_
              refine aq_then ?_
              refine ac_region ?_
              refine al_q (q_move rfl) rfl rfl rfl ?_
              refine al_q (q_add rfl rfl (by omega)) rfl rfl rfl ?_
              refine al_q (q_assign rfl) rfl rfl rfl ?_
              refine al_end ?_
              refine aq_then ?_
              skip
              refine aq_round (k + 1) (by omega) (by omega) ⟨rfl, rfl, rfl, rfl, rfl, rfl, trivial⟩ (fun w9 hs => hs)
          · skip
            refine al_skip rfl rfl rfl ?_
            refine al_skip rfl rfl rfl ?_
            refine al_skip rfl rfl rfl ?_
            refine al_q (q_pickF rfl rfl) rfl rfl rfl ?_
            refine al_q (q_move rfl) rfl rfl rfl ?_
            refine al_skip rfl rfl rfl ?_
            refine al_skip rfl rfl rfl ?_
            refine al_skip rfl rfl rfl ?_
            refine al_skip rfl rfl rfl ?_
            refine al_skip rfl rfl rfl ?_
            refine al_q (q_pickF rfl rfl) rfl rfl rfl ?_
            refine al_end ?_
            refine aq_then ?_
            refine ac_condF rfl ?_
            refine ac_skip ?_
            refine aq_inN ?_
            refine aq_then ?_
            refine ac_region ?_
            refine al_q (q_move rfl) rfl rfl rfl ?_
            refine al_q (q_add rfl rfl (by omega)) rfl rfl rfl ?_
            refine al_q (q_assign rfl) rfl rfl rfl ?_
            refine al_end ?_
            refine aq_then ?_
            skip
            refine aq_round (k + 1) (by omega) (by omega) ⟨rfl, rfl, rfl, rfl, rfl, rfl, trivial⟩ (fun w9 hs => hs)
        · skip
          refine al_skip rfl rfl rfl ?_
          refine al_skip rfl rfl rfl ?_
          refine al_q (q_pickF rfl rfl) rfl rfl rfl ?_
          refine al_q (q_move rfl) rfl rfl rfl ?_
          refine al_skip rfl rfl rfl ?_
          refine al_skip rfl rfl rfl ?_
          refine al_skip rfl rfl rfl ?_
          refine al_q (q_pickF rfl rfl) rfl rfl rfl ?_
          refine al_q (q_move rfl) rfl rfl rfl ?_
          refine al_skip rfl rfl rfl ?_
          refine al_skip rfl rfl rfl ?_
          refine al_skip rfl rfl rfl ?_
          refine al_skip rfl rfl rfl ?_
          refine al_skip rfl rfl rfl ?_
          refine al_q (q_pickF rfl rfl) rfl rfl rfl ?_
          refine al_end ?_
          refine aq_then ?_
          refine ac_condF rfl ?_
          refine ac_skip ?_
          refine aq_inN ?_
          refine aq_then ?_
          refine ac_region ?_
          refine al_q (q_move rfl) rfl rfl rfl ?_
          refine al_q (q_add rfl rfl (by omega)) rfl rfl rfl ?_
          refine al_q (q_assign rfl) rfl rfl rfl ?_
          refine al_end ?_
          refine aq_then ?_
          skip
          refine aq_round (k + 1) (by omega) (by omega) ⟨rfl, rfl, rfl, rfl, rfl, rfl, trivial⟩ (fun w9 hs => hs)
      · skip
        refine ac_exit ?_
        refine aq_thenE ?_
        refine aq_thenE ?_
        refine aq_hit ?_
        refine aq_then ?_
        refine ac_seq ?_
        refine ac_region ?_
        refine al_q (q_assign rfl) rfl rfl rfl ?_
        refine al_end ?_
        refine aq_then ?_
        refine ac_ret ?_
        refine ret1 Try.results3 rfl (fun w9 hs => ?_)
        exact ⟨rfl, hs.below⟩

theorem proved_walk (R : MachR) (M : MachD) (G : Option Addr) (ng cg : Nat) (gs : List GainD) (most y0 y1 gr gz : Int) (s t : ShapeD) (w : World) (hM : R.la ≤ 1000000000000000 → R.lb ≤ 1000000000000000 → R.lc ≤ 1000000000000000 → R.ld ≤ 1000000000000000 → IsM w R M) (hG : IsT 4 GainD.cells w G ng gs) : Calls Try.prog 3 #[.agg (machCells R M), .agg #[.slice G ng cg, .int .i64 most], .agg #[.int .i64 y0, .int .i64 y1], .agg #[.int .i64 gr, .int .i64 gz], s.v, t.v] w (Ret (.bool true) w) := by
  by_cases he : (errL gr gz s).2.2.2.2 = 0 ∧ (errL gr gz t).2.2.2.2 = 0
  · by_cases hd : (provedL (errL gr gz s).1 (errL gr gz s).2.1) = (provedL (errL gr gz t).1 (errL gr gz t).2.1) ∧ (provedL (errL gr gz s).2.2.1 (errL gr gz s).2.2.2.1) = (provedL (errL gr gz t).2.2.1 (errL gr gz t).2.2.2.1)
    · exact proved_same R M G ng cg gs most y0 y1 gr gz s t w hM hG he hd
    · exact proved_other R M G ng cg gs most y0 y1 gr gz s t w hM hG he hd
  · exact proved_err R M G ng cg gs most y0 y1 gr gz s t w hM hG he

end Go.Proofs.Ytcdhanfjcnfjjaa
end
section
/- The frame of the laws over spans: how an argument that is a span or a Pair is opened and shut, over this seat's translation. -/
namespace Go.Proofs.Ytcdhanfjcnfjjaa
set_option linter.unusedVariables false
set_option linter.unusedSimpArgs false
set_option maxRecDepth 100000
open Go.ChangeShapes Go.WideShapes Go.ChangeAt Go.RowKit Go.Joins

theorem own : ownKnob Try.prog.godebug = none := by kernel_rfl

theorem cells_span : Try.prog.cellsOf 38 = 2 := by kernel_rfl

theorem cells_int : Try.prog.cellsOf 3 = 1 := by kernel_rfl

section
variable {H : Type} {enc : TypeId × Value → H}

end
end Go.Proofs.Ytcdhanfjcnfjjaa
end
