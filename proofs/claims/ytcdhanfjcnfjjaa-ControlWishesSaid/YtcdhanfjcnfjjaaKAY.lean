import Derived.Test.YtcdhanfjcnfjjaaKAT
import Derived.Test.YtcdhanfjcnfjjaaKAU
import Derived.Test.YtcdhanfjcnfjjaaKAW
import Derived.Test.YtcdhanfjcnfjjaaKAX
import Derived.Test.YtcdhanfjcnfjjaaRows
import Derived.KernelRfl
import Derived.Laws.StructEq
section
/- The specification of layer 7: Remember, Wish, over this seat's translation (written by ax_cp.py). -/
namespace Go.Proofs.Ytcdhanfjcnfjjaa
set_option linter.unusedVariables false
set_option linter.unusedSimpArgs false
open Go.RowKit

theorem cpr_bl_apiMemory_ : ∀ w, (Instr.build 34 #[]).run Try.prog w = .ok (.agg #[(.int .i64 0), (.int .i64 0)]) w := by
  intro w; simp [Instr.build, Instr.fill, cells_agg, Try.runUnderlying34, Try.zeroValue34, Try.sizeOf3]

theorem cpr_bl_apiMemory_0_1 (a0 a1 : Value) (ha0 : a0.oneCell' = true) (ha1 : a1.oneCell' = true) : ∀ w, (Instr.build 34 #[(0, a0), (1, a1)]).run Try.prog w = .ok (.agg #[a0, a1]) w := by
  have ea0 : a0.cells = #[a0] := cells_one ha0
  have ea1 : a1.cells = #[a1] := cells_one ha1
  intro w; simp [Instr.build, Instr.fill, cells_agg, Try.runUnderlying34, Try.zeroValue34, Try.sizeOf3, ea0, ea1]

set_option maxRecDepth 100000 in
theorem rrememberN_any (most y0 y1 gr gz : Int) (s : ShapeD) (w : World) : Calls Try.prog 13 #[(.int .i64 most), (.agg #[.int .i64 y0, .int .i64 y1]), (.agg #[.int .i64 gr, .int .i64 gz]), s.v] w (Ret (.tuple #[.agg #[.int .i64 (remL most y0 y1 gr gz s).1, .int .i64 (remL most y0 y1 gr gz s).2.1], .int .i64 (remL most y0 y1 gr gz s).2.2]) w) := by
  refine calls_ax (vs := [(.int .i64 most), (.agg #[.int .i64 y0, .int .i64 y1]), (.agg #[.int .i64 gr, .int .i64 gz]), s.v]) Try.func13 rfl rfl ?_
  refine ac_seq ?_
  refine ac_region ?_
  refine al_new (fun b => .pointer (some ⟨b, 0, none⟩)) (r_box rfl rfl) rfl rfl rfl ?_
  intro b1
  refine al_new (fun b => .pointer (some ⟨b, 0, none⟩)) (r_box rfl rfl) rfl rfl rfl ?_
  intro b2
  refine al_new (fun b => .pointer (some ⟨b, 0, none⟩)) (r_box rfl rfl) rfl rfl rfl ?_
  intro b3
  refine al_new (fun b => .pointer (some ⟨b, 0, none⟩)) (r_alloc Try.zeroValue34 rfl) rfl rfl rfl ?_
  intro b4
  refine al_q (q_assign rfl) rfl rfl rfl ?_
  refine al_end ?_
  refine aq_then ?_
  refine ac_seq ?_
  refine ac_seq ?_
  refine ac_region ?_
  refine al_q (q_loadAll (i := 3) rfl rfl Try.isAgg34 Try.sizeOf34 rfl) rfl rfl rfl ?_
  refine al_call Try.call28 (.cons rfl .nil) rfl rfl (fun w1 hs1 => ?_)
  refine (rmem_any y0 y1 _).mono ?_
  rintro e u1 ⟨rfl, hb_1⟩
  refine ⟨_, rfl, hb_1, ?_⟩
  clear hs1
  refine al_q (q_not rfl) rfl rfl rfl ?_
  refine al_end ?_
  refine aq_then ?_
  refine ac_cond rfl (fun h1 => ?_) (fun h1 => ?_)
  · have hmb : memB y0 y1 = false := by simpa using h1
    refine ac_seq ?_
    refine ac_region ?_
    refine al_q (q_build .nil (cpr_bl_apiMemory_)) rfl rfl rfl ?_
    refine al_storeAll (i := 0) rfl rfl rfl rfl Try.sizeOf34 rfl rfl .k0 rfl ?_
    refine al_q (q_assign rfl) rfl rfl rfl ?_
    refine al_end ?_
    refine aq_then ?_
    refine ac_ret ?_
    refine aq_thenR ?_
    refine retR Try.results13 (.agg (i := 0) rfl rfl Try.isAgg34 Try.sizeOf34 rfl (.tmp rfl .nil)) .two (fun w9 hs => ?_)
    refine ⟨?_, hs.below⟩; simp [remL, hmb]
  · have hmb : memB y0 y1 = true := by simpa using h1
    have hmm : (-1000000000 ≤ y0 ∧ y0 ≤ 1000000000) ∧ -1000000000 ≤ y1 ∧ y1 ≤ 1000000000 := by
      have h9 := hmb; unfold memB at h9; rw [Bool.and_eq_true] at h9; exact ⟨wthn_iff.1 h9.1, wthn_iff.1 h9.2⟩
    refine ac_skip ?_
    refine aq_then ?_
    refine ac_seq ?_
    refine ac_region ?_
    refine al_q (q_loadAll (i := 2) rfl rfl Try.isAgg36 Try.sizeOf36 rfl) rfl rfl rfl ?_
    refine al_q (q_loadAll (i := 1) rfl rfl Try.isAgg40 Try.sizeOf40 rfl) rfl rfl rfl ?_
    refine al_call Try.call7 (.cons rfl (.cons rfl .nil)) rfl rfl (fun w2 hs2 => ?_)
    refine (rerrN_any gr gz s _).mono ?_
    rintro e u2 ⟨A1, d1, rfl, N1, hb_2⟩
    refine ⟨_, rfl, hb_2, ?_⟩
    clear hs2
    refine al_q (q_move rfl) rfl rfl rfl ?_
    refine al_q (q_extract rfl rfl) rfl rfl rfl ?_
    refine al_q (q_extract rfl rfl) rfl rfl rfl ?_
    refine al_q (q_assign rfl) rfl rfl rfl ?_
    refine al_q (q_assign rfl) rfl rfl rfl ?_
    refine al_end ?_
    refine aq_then ?_
    refine ac_seq ?_
    refine ac_seq ?_
    refine ac_region ?_
    refine al_q (q_move rfl) rfl rfl rfl ?_
    refine al_q (q_eql rfl rfl) rfl rfl rfl ?_
    refine al_end ?_
    refine aq_then ?_
    refine ac_cond rfl (fun h2 => ?_) (fun h2 => ?_)
    · have he1 : (errL gr gz s).2.2.2.2 = 1 := by simpa using h2
      refine ac_seq ?_
      refine ac_region ?_
      refine al_q (q_build .nil (cpr_bl_apiMemory_)) rfl rfl rfl ?_
      refine al_q (q_move rfl) rfl rfl rfl ?_
      refine al_storeAll (i := 0) rfl rfl rfl rfl Try.sizeOf34 rfl rfl .k0 rfl ?_
      refine al_q (q_assign rfl) rfl rfl rfl ?_
      refine al_end ?_
      refine aq_then ?_
      refine ac_ret ?_
      refine aq_thenR ?_
      refine retR Try.results13 (.agg (i := 0) rfl rfl Try.isAgg34 Try.sizeOf34 rfl (.tmp rfl .nil)) .two (fun w9 hs => ?_)
      refine ⟨?_, hs.below⟩; simp [remL, hmb, he1]
    · have he1 : ¬ (errL gr gz s).2.2.2.2 = 1 := by simpa using h2
      refine ac_skip ?_
      refine aq_then ?_
      refine ac_seq ?_
      refine ac_seq ?_
      refine ac_region ?_
      refine al_q (q_move rfl) rfl rfl rfl ?_
      refine al_call Try.call29 (.cons rfl (.cons rfl (.cons rfl .nil))) rfl rfl (fun w3 hs3 => ?_)
      refine (rwithin7_any most 0 1000000000 _).mono ?_
      rintro e u3 ⟨rfl, rfl⟩
      refine ⟨_, rfl, (Below.refl _ _), ?_⟩
      clear hs3
      refine al_q (q_not rfl) rfl rfl rfl ?_
      refine al_end ?_
      refine aq_then ?_
      refine ac_cond rfl (fun h3 => ?_) (fun h3 => ?_)
      · have hwm : wthn most 0 1000000000 = false := by simpa using h3
        refine ac_seq ?_
        refine ac_region ?_
        refine al_q (q_build .nil (cpr_bl_apiMemory_)) rfl rfl rfl ?_
        refine al_storeAll (i := 0) rfl rfl rfl rfl Try.sizeOf34 rfl rfl .k0 rfl ?_
        refine al_q (q_assign rfl) rfl rfl rfl ?_
        refine al_end ?_
        refine aq_then ?_
        refine ac_ret ?_
        refine aq_thenR ?_
        refine retR Try.results13 (.agg (i := 0) rfl rfl Try.isAgg34 Try.sizeOf34 rfl (.tmp rfl .nil)) .two (fun w9 hs => ?_)
        refine ⟨?_, hs.below⟩; simp [remL, hmb, he1, hwm]
      · have hwm : wthn most 0 1000000000 = true := by simpa using h3
        have hwm2 := wthn_iff.1 hwm
        refine ac_skip ?_
        refine aq_then ?_
        refine ac_seq ?_
        refine ac_seq ?_
        refine ac_region ?_
        refine al_q (q_move rfl) rfl rfl rfl ?_
        refine al_q (q_neq rfl rfl) rfl rfl rfl ?_
        refine al_end ?_
        refine aq_then ?_
        refine ac_cond rfl (fun h4 => ?_) (fun h4 => ?_)
        · have he0 : ¬ (errL gr gz s).2.2.2.2 = 0 := by simpa using h4
          refine ac_seq ?_
          refine ac_region ?_
          refine al_q (q_build .nil (cpr_bl_apiMemory_)) rfl rfl rfl ?_
          refine al_q (q_move rfl) rfl rfl rfl ?_
          refine al_storeAll (i := 0) rfl rfl rfl rfl Try.sizeOf34 rfl rfl .k0 rfl ?_
          refine al_q (q_assign rfl) rfl rfl rfl ?_
          refine al_end ?_
          refine aq_then ?_
          refine ac_ret ?_
          refine aq_thenR ?_
          refine retR Try.results13 (.agg (i := 0) rfl rfl Try.isAgg34 Try.sizeOf34 rfl (.tmp rfl .nil)) .two (fun w9 hs => ?_)
          refine ⟨?_, hs.below⟩; simp [remL, hmb, he1, hwm, he0]
        · have he0 : (errL gr gz s).2.2.2.2 = 0 := by simpa using h4
          obtain ⟨x10, x11, ht1, hp1, hq1⟩ : ∃ x10 x11 : SpanD, errT gr gz s = [x10, x11] ∧ provedL x10.lo x10.hi = (provedL (errL gr gz s).1 (errL gr gz s).2.1) ∧ provedL x11.lo x11.hi = (provedL (errL gr gz s).2.2.1 (errL gr gz s).2.2.2.1) := ⟨⟨_, _⟩, ⟨_, _⟩, by unfold errT; rw [if_pos he0], rfl, rfl⟩
          have hx10 : (errT gr gz s)[0]? = some x10 := by rw [ht1]; rfl
          have hx11 : (errT gr gz s)[1]? = some x11 := by rw [ht1]; rfl
          have hl1 : (errT gr gz s).length = 2 := by rw [ht1]; rfl
          obtain ⟨bo1, oo1, hA1, hlt1, hget1⟩ := N1.isT.2 (by rw [hl1]; decide)
          have p1 := provedL_in x10.lo x10.hi
          have p2 := provedL_in x11.lo x11.hi
          refine ac_skip ?_
          refine aq_then ?_
          refine ac_seq ?_
          refine ac_drawK 1 20 rfl (by kernel_rfl) (by kernel_rfl) ?_
          refine ah_take 0 (fun w9 hs => (hs.tail 1 rfl)) rfl rfl rfl (by kernel_rfl) (by kernel_rfl) (by kernel_rfl) (fun _ _ _ h => h) rfl (q_fieldAddr 0 rfl Try.runUnderlying34 rfl Try.sizeOf3 (by decide) rfl) ?_
          refine ah_take 1 (fun w9 hs => (hs.tail 1 rfl)) rfl rfl rfl (by kernel_rfl) (by kernel_rfl) (by kernel_rfl) (fun _ _ _ h => h) rfl (q_load (i := 2) rfl rfl rfl Try.isAgg3) ?_
          refine ah_take 2 (fun w9 hs => (hs.tail 1 rfl)) rfl rfl rfl (by kernel_rfl) (by kernel_rfl) (by kernel_rfl) (fun _ _ _ h => h) rfl (q_move rfl) ?_
          refine ah_take 3 (fun w9 hs => (hs.tail 1 rfl)) rfl rfl rfl (by kernel_rfl) (by kernel_rfl) (by kernel_rfl) (fun _ _ _ h => h) rfl (q_indexAddrA (i := 0) (oo1 + 0 * 2 + 0) hA1 rfl rfl rfl (by omega) Try.runUnderlying43 Try.sizeOf38 rfl) ?_
          refine ah_take 4 (fun w9 hs => (hs.tail 1 rfl)) rfl rfl rfl (by kernel_rfl) (by kernel_rfl) (by kernel_rfl) (fun _ _ _ h => h) rfl (q_loadXs (SpanD.cells x10) rfl Try.isAgg38 Try.sizeOf38 (fun w9 hs j9 v9 h9 => by rw [addr_add]; exact hs.cellOf (.tail _ (.head _)) (N1.new _ _ hA1) hlt1 (hget1 0 x10 hx10 j9 v9 h9)) rfl) ?_
          refine ah_take 7 (fun w9 hs => (hs.tail 1 rfl)) rfl rfl rfl (by kernel_rfl) (by kernel_rfl) (by kernel_rfl) (fun _ _ _ h => h) rfl (q_move rfl) ?_
          refine ah_take 9 (fun w9 hs => (hs.tail 1 rfl)) rfl rfl rfl (by kernel_rfl) (by kernel_rfl) (by kernel_rfl) (fun _ _ _ h => h) rfl (q_fieldAddr 1 rfl Try.runUnderlying34 rfl Try.sizeOf3 (by decide) rfl) ?_
          refine ah_take 10 (fun w9 hs => (hs.tail 1 rfl)) rfl rfl rfl (by kernel_rfl) (by kernel_rfl) (by kernel_rfl) (fun _ _ _ h => h) rfl (q_load (i := 2) rfl rfl rfl Try.isAgg3) ?_
          refine ah_take 11 (fun w9 hs => (hs.tail 1 rfl)) rfl rfl rfl (by kernel_rfl) (by kernel_rfl) (by kernel_rfl) (fun _ _ _ h => h) rfl (q_move rfl) ?_
          refine ah_take 12 (fun w9 hs => (hs.tail 1 rfl)) rfl rfl rfl (by kernel_rfl) (by kernel_rfl) (by kernel_rfl) (fun _ _ _ h => h) rfl (q_indexAddrA (i := 1) (oo1 + 1 * 2 + 0) hA1 rfl rfl rfl (by omega) Try.runUnderlying43 Try.sizeOf38 rfl) ?_
          refine ah_take 13 (fun w9 hs => (hs.tail 1 rfl)) rfl rfl rfl (by kernel_rfl) (by kernel_rfl) (by kernel_rfl) (fun _ _ _ h => h) rfl (q_loadXs (SpanD.cells x11) rfl Try.isAgg38 Try.sizeOf38 (fun w9 hs j9 v9 h9 => by rw [addr_add]; exact hs.cellOf (.tail _ (.head _)) (N1.new _ _ hA1) hlt1 (hget1 1 x11 hx11 j9 v9 h9)) rfl) ?_
          refine ah_take 16 (fun w9 hs => (hs.tail 1 rfl)) rfl rfl rfl (by kernel_rfl) (by kernel_rfl) (by kernel_rfl) (fun _ _ _ h => h) rfl (q_move rfl) ?_
          refine ah_one 5 rfl (by kernel_rfl) (fun hok1 hcl1 => ?_)
          refine al_call Try.call8 (.cons rfl .nil) rfl rfl (fun w4 hs4 => ?_)
          refine (rproved_any x10.lo x10.hi _).mono ?_
          rintro e u4 ⟨rfl, hb_4⟩
          refine ⟨_, rfl, hb_4, ?_⟩
          clear hs4
          refine al_end (ah_back hok1 hcl1 (fun w9 hs => ((hs.fewer 1 rfl).tail 1 rfl)) ?_)
          refine ah_take 6 (fun w9 hs => ((hs.fewer 1 rfl).tail 1 rfl)) rfl rfl rfl (by kernel_rfl) (by kernel_rfl) (by kernel_rfl) (fun _ _ _ h => h) rfl (q_add rfl rfl (by omega)) ?_
          refine ah_one 8 rfl (by kernel_rfl) (fun hok2 hcl2 => ?_)
          refine al_call Try.call30 (.cons rfl (.cons rfl .nil)) rfl rfl (fun w5 hs5 => ?_)
          refine (rcut_any (y0 + provedL x10.lo x10.hi) most _ (by omega) (by omega)).mono ?_
          rintro e u5 ⟨rfl, rfl⟩
          refine ⟨_, rfl, (Below.refl _ _), ?_⟩
          clear hs5
          refine al_end (ah_back hok2 hcl2 (fun w9 hs => ((hs.fewer 2 rfl).tail 1 rfl)) ?_)
          refine ah_one 14 rfl (by kernel_rfl) (fun hok3 hcl3 => ?_)
          refine al_call Try.call8 (.cons rfl .nil) rfl rfl (fun w6 hs6 => ?_)
          refine (rproved_any x11.lo x11.hi _).mono ?_
          rintro e u6 ⟨rfl, hb_6⟩
          refine ⟨_, rfl, hb_6, ?_⟩
          clear hs6
          refine al_end (ah_back hok3 hcl3 (fun w9 hs => ((hs.fewer 3 rfl).tail 1 rfl)) ?_)
          refine ah_take 15 (fun w9 hs => ((hs.fewer 3 rfl).tail 1 rfl)) rfl rfl rfl (by kernel_rfl) (by kernel_rfl) (by kernel_rfl) (fun _ _ _ h => h) rfl (q_add rfl rfl (by omega)) ?_
          refine ah_one 17 rfl (by kernel_rfl) (fun hok4 hcl4 => ?_)
          refine al_call Try.call30 (.cons rfl (.cons rfl .nil)) rfl rfl (fun w7 hs7 => ?_)
          refine (rcut_any (y1 + provedL x11.lo x11.hi) most _ (by omega) (by omega)).mono ?_
          rintro e u7 ⟨rfl, rfl⟩
          refine ⟨_, rfl, (Below.refl _ _), ?_⟩
          clear hs7
          refine al_end (ah_back hok4 hcl4 (fun w9 hs => ((hs.fewer 4 rfl).tail 1 rfl)) ?_)
          refine ah_take 18 (fun w9 hs => ((hs.fewer 4 rfl).tail 1 rfl)) rfl rfl rfl (by kernel_rfl) (by kernel_rfl) (by kernel_rfl) (fun _ _ _ h => h) rfl (q_build (.cons rfl (.cons rfl .nil)) (cpr_bl_apiMemory_0_1 _ _ rfl rfl)) ?_
          refine ah_one 19 rfl (by kernel_rfl) (fun hok5 hcl5 => ?_)
          refine al_storeAll (i := 0) rfl rfl rfl rfl Try.sizeOf34 rfl rfl .k0 rfl ?_
          refine al_end (ah_back hok5 hcl5 (fun w9 hs => ((hs.fewer 4 rfl).tail 1 rfl)) ?_)
          refine ah_one 20 rfl (by kernel_rfl) (fun hok6 hcl6 => ?_)
          refine al_q (q_assign rfl) rfl rfl rfl ?_
          refine al_end (ah_last (by kernel_rfl) ?_)
          refine aq_then ?_
          refine ac_ret ?_
          refine retR Try.results13 (.agg (i := 0) rfl rfl Try.isAgg34 Try.sizeOf34 rfl (.tmp rfl .nil)) .two (fun w9 hs => ?_)
          refine ⟨?_, hs.below⟩; rw [hp1, hq1]; simp [remL, hmb, he0, hwm]

theorem take_get {α : Type} {l : List α} {k : Nat} {v : α} (h : l[k]? = some v) : l.take (k + 1) = l.take k ++ [v] := by
  obtain ⟨hk, e⟩ := List.getElem?_eq_some_iff.1 h
  rw [List.take_succ_eq_append_getElem hk, e]

theorem cpr_bs_int_1_0_ (a0 : Value) (ha0 : a0.oneCell' = true) : ∀ w, (Instr.buildSlice 50 1 #[(0, a0)]).run Try.prog w = .ok (.slice (some ⟨w.heap.size, 0, none⟩) 1 1) (w.alloc (.cells [a0].toArray 3)) := by
  have ea0 : a0.cells = #[a0] := cells_one ha0
  intro w; (simp [Instr.buildSlice, Instr.fill, cells_agg, newRow, Try.runUnderlying50, Try.zeroValue3, Try.sizeOf3, ea0] <;> (rw [(by kernel_rfl : Array.range 1 = #[0])]; simp [Value.cells]))

set_option maxRecDepth 100000 in
theorem rwishN_any (R : MachR) (M : MachD) (G : Option Addr) (ng cg : Nat) (gs : List GainD) (most y0 y1 gr gz : Int) (s : ShapeD) (w : World) (hM : IsM w R M) (hG : IsT 4 GainD.cells w G ng gs) (hn : ng ≤ 1000000000000000) : Calls Try.prog 14 #[(.agg (machCells R M)), (.agg #[.slice G ng cg, .int .i64 most]), (.agg #[.int .i64 y0, .int .i64 y1]), (.agg #[.int .i64 gr, .int .i64 gz]), s.v] w (fun e w' => ∃ A c, e = .returned (.tuple #[.slice A (wishT M gs most y0 y1 gr gz s).length c, .int .i64 (wishE M gs most y0 y1 gr gz s)]) ∧ NewT 1 intCells w.heap.size w' A (wishT M gs most y0 y1 gr gz s).length c (wishT M gs most y0 y1 gr gz s) ∧ (wishT M gs most y0 y1 gr gz s).length ≤ 1000 ∧ Below w.heap.size w w') := by
  have e1 := hM.coils.1
  have e2 := hG.1
  refine calls_ax (vs := [(.agg (machCells R M)), (.agg #[.slice G ng cg, .int .i64 most]), (.agg #[.int .i64 y0, .int .i64 y1]), (.agg #[.int .i64 gr, .int .i64 gz]), s.v]) Try.func14 rfl rfl ?_
  refine ac_seq ?_
  refine ac_region ?_
  refine al_new (fun b => .pointer (some ⟨b, 0, none⟩)) (r_box rfl rfl) rfl rfl rfl ?_
  intro b1
  refine al_new (fun b => .pointer (some ⟨b, 0, none⟩)) (r_box rfl rfl) rfl rfl rfl ?_
  intro b2
  refine al_new (fun b => .pointer (some ⟨b, 0, none⟩)) (r_box rfl rfl) rfl rfl rfl ?_
  intro b3
  refine al_new (fun b => .pointer (some ⟨b, 0, none⟩)) (r_box rfl rfl) rfl rfl rfl ?_
  intro b4
  refine al_new (fun b => .pointer (some ⟨b, 0, none⟩)) (r_box rfl rfl) rfl rfl rfl ?_
  intro b5
  refine al_q (q_assign rfl) rfl rfl rfl ?_
  refine al_q (q_assign rfl) rfl rfl rfl ?_
  refine al_end ?_
  refine aq_then ?_
  refine ac_seq ?_
  refine ac_seq ?_
  refine ac_region ?_
  refine al_q (q_loadAll (i := 4) rfl rfl Try.isAgg29 Try.sizeOf29 rfl) rfl rfl rfl ?_
  refine al_q (q_loadAll (i := 3) rfl rfl Try.isAgg32 Try.sizeOf32 rfl) rfl rfl rfl ?_
  refine al_call Try.call31 (.cons rfl (.cons rfl .nil)) rfl rfl (fun w1 hs1 => ?_)
  refine (rsetup_any R M G ng cg gs most _ (hM.below hs1.below) (hG.below hs1.below) hn).mono ?_
  rintro e u1 ⟨rfl, hb_1⟩
  refine ⟨_, rfl, hb_1, ?_⟩
  clear hs1
  refine al_q (q_not rfl) rfl rfl rfl ?_
  refine al_q (q_move rfl) rfl rfl rfl ?_
  refine aq_split 20 rfl (fun hb1 => ?_) (fun hb1 => ?_)
  · have hsb : setupB M gs most = false := by simpa using hb1
    refine al_skip rfl rfl rfl ?_
    refine al_skip rfl rfl rfl ?_
    refine al_skip rfl rfl rfl ?_
    refine al_q (q_pickT rfl rfl) rfl rfl rfl ?_
    refine al_end ?_
    refine aq_then ?_
    refine ac_condT rfl ?_
    refine ac_seq ?_
    refine ac_region ?_
    refine al_q (q_assign rfl) rfl rfl rfl ?_
    refine al_q (q_assign rfl) rfl rfl rfl ?_
    refine al_end ?_
    refine aq_then ?_
    refine ac_ret ?_
    refine aq_thenR ?_
    refine ret2 Try.results14 rfl rfl (fun w9 hs => ?_)
    have he : wishE M gs most y0 y1 gr gz s = 1 := by unfold wishE; rw [if_neg (by rw [hsb]; decide)]
    have ht : wishT M gs most y0 y1 gr gz s = [] := by unfold wishT; rw [if_neg (by rw [he]; decide)]
    exact ⟨none, 0, by rw [ht, he]; rfl, by rw [ht]; exact ⟨IsT.nil _ _ _ _, fun b off e => (by cases e), Nat.le_refl _, by omega⟩, by rw [ht]; simp, hs.below⟩
  · have hsb : setupB M gs most = true := by simpa using hb1
    have hsp := setupB_parts hsb
    have hs0 := sound_of hsp.1
    have f1 := hs0.coils.1
    refine al_q (q_loadAll (i := 2) rfl rfl Try.isAgg34 Try.sizeOf34 rfl) rfl rfl rfl ?_
    refine al_call Try.call28 (.cons rfl .nil) rfl rfl (fun w2 hs2 => ?_)
    refine (rmem_any y0 y1 _).mono ?_
    rintro e u2 ⟨rfl, hb_2⟩
    refine ⟨_, rfl, hb_2, ?_⟩
    clear hs2
    refine al_q (q_not rfl) rfl rfl rfl ?_
    refine al_q (q_pickF rfl rfl) rfl rfl rfl ?_
    refine al_end ?_
    refine aq_then ?_
    refine ac_cond rfl (fun h1 => ?_) (fun h1 => ?_)
    · have hmb : memB y0 y1 = false := by simpa using h1
      refine ac_seq ?_
      refine ac_region ?_
      refine al_q (q_assign rfl) rfl rfl rfl ?_
      refine al_q (q_assign rfl) rfl rfl rfl ?_
      refine al_end ?_
      refine aq_then ?_
      refine ac_ret ?_
      refine aq_thenR ?_
      refine ret2 Try.results14 rfl rfl (fun w9 hs => ?_)
      have he : wishE M gs most y0 y1 gr gz s = 1 := by unfold wishE; rw [if_pos hsb, if_neg (by rw [hmb]; decide)]
      have ht : wishT M gs most y0 y1 gr gz s = [] := by unfold wishT; rw [if_neg (by rw [he]; decide)]
      exact ⟨none, 0, by rw [ht, he]; rfl, by rw [ht]; exact ⟨IsT.nil _ _ _ _, fun b off e => (by cases e), Nat.le_refl _, by omega⟩, by rw [ht]; simp, hs.below⟩
    · have hmb : memB y0 y1 = true := by simpa using h1
      have hmm : (-1000000000 ≤ y0 ∧ y0 ≤ 1000000000) ∧ -1000000000 ≤ y1 ∧ y1 ≤ 1000000000 := by
        have h9 := hmb; unfold memB at h9; rw [Bool.and_eq_true] at h9; exact ⟨wthn_iff.1 h9.1, wthn_iff.1 h9.2⟩
      refine ac_skip ?_
      refine aq_then ?_
      refine ac_seq ?_
      refine ac_region ?_
      refine al_q (q_loadAll (i := 1) rfl rfl Try.isAgg36 Try.sizeOf36 rfl) rfl rfl rfl ?_
      refine al_q (q_loadAll (i := 0) rfl rfl Try.isAgg40 Try.sizeOf40 rfl) rfl rfl rfl ?_
      refine al_call Try.call7 (.cons rfl (.cons rfl .nil)) rfl rfl (fun w3 hs3 => ?_)
      refine (rerrN_any gr gz s _).mono ?_
      rintro e u3 ⟨A1, d1, rfl, N1, hb_3⟩
      refine ⟨_, rfl, hb_3, ?_⟩
      clear hs3
      refine al_q (q_move rfl) rfl rfl rfl ?_
      refine al_q (q_extract rfl rfl) rfl rfl rfl ?_
      refine al_q (q_extract rfl rfl) rfl rfl rfl ?_
      refine al_q (q_assign rfl) rfl rfl rfl ?_
      refine al_q (q_assign rfl) rfl rfl rfl ?_
      refine al_end ?_
      refine aq_then ?_
      refine ac_seq ?_
      refine ac_seq ?_
      refine ac_region ?_
      refine al_q (q_move rfl) rfl rfl rfl ?_
      refine al_q (q_neq rfl rfl) rfl rfl rfl ?_
      refine al_end ?_
      refine aq_then ?_
      refine ac_cond rfl (fun h2 => ?_) (fun h2 => ?_)
      · have hee : ¬ (errL gr gz s).2.2.2.2 = 0 := by simpa using h2
        refine ac_seq ?_
        refine ac_region ?_
        refine al_q (q_move rfl) rfl rfl rfl ?_
        refine al_q (q_assign rfl) rfl rfl rfl ?_
        refine al_q (q_assign rfl) rfl rfl rfl ?_
        refine al_end ?_
        refine aq_then ?_
        refine ac_ret ?_
        refine aq_thenR ?_
        refine ret2 Try.results14 rfl rfl (fun w9 hs => ?_)
        have he : wishE M gs most y0 y1 gr gz s = (errL gr gz s).2.2.2.2 := by unfold wishE; rw [if_pos hsb, if_pos hmb]
        have ht : wishT M gs most y0 y1 gr gz s = [] := by unfold wishT; rw [if_neg (by rw [he]; exact hee)]
        exact ⟨none, 0, by rw [ht, he]; rfl, by rw [ht]; exact ⟨IsT.nil _ _ _ _, fun b off e => (by cases e), Nat.le_refl _, by omega⟩, by rw [ht]; simp, hs.below⟩
      · have he0 : (errL gr gz s).2.2.2.2 = 0 := by simpa using h2
        have hwl : (wishL M gs (provedL (errL gr gz s).1 (errL gr gz s).2.1) (provedL (errL gr gz s).2.2.1 (errL gr gz s).2.2.2.1) y0 y1).length = R.la := by rw [wishL_len hsp.2.1]; omega
        obtain ⟨x10, x11, ht1, hp1, hq1⟩ : ∃ x10 x11 : SpanD, errT gr gz s = [x10, x11] ∧ provedL x10.lo x10.hi = (provedL (errL gr gz s).1 (errL gr gz s).2.1) ∧ provedL x11.lo x11.hi = (provedL (errL gr gz s).2.2.1 (errL gr gz s).2.2.2.1) := ⟨⟨_, _⟩, ⟨_, _⟩, by unfold errT; rw [if_pos he0], rfl, rfl⟩
        have hx10 : (errT gr gz s)[0]? = some x10 := by rw [ht1]; rfl
        have hx11 : (errT gr gz s)[1]? = some x11 := by rw [ht1]; rfl
        have hl1 : (errT gr gz s).length = 2 := by rw [ht1]; rfl
        obtain ⟨bo1, oo1, hA1, hlt1, hget1⟩ := N1.isT.2 (by rw [hl1]; decide)
        have p1 := provedL_in x10.lo x10.hi
        have p2 := provedL_in x11.lo x11.hi
        refine ac_skip ?_
        refine aq_then ?_
        refine ac_seq ?_
        refine ac_region ?_
        refine al_q (q_assign rfl) rfl rfl rfl ?_
        refine al_end ?_
        refine aq_then ?_
        refine ac_seq ?_
        refine ac_seq ?_
        refine ac_region ?_
        refine al_q (q_assign rfl) rfl rfl rfl ?_
        refine al_end ?_
        refine aq_then ?_
        refine ac_block ?_
        refine ac_loop (β := Nat × Gr × List Value) (fun x => x.1 ≤ R.la ∧ gok x.2.1 x.1 1 x.2.2 ∧ x.2.2 = ((wishL M gs (provedL (errL gr gz s).1 (errL gr gz s).2.1) (provedL (errL gr gz s).2.2.1 (errL gr gz s).2.2.2.1) y0 y1).take x.1).map (Value.int .i64)) (fun x => [(5, (.pointer (some ⟨b1, 0, none⟩))), (6, (.pointer (some ⟨b2, 0, none⟩))), (7, (.pointer (some ⟨b3, 0, none⟩))), (10, (.slice none 0 0)), (11, (.int .i64 0)), (12, (.slice A1 (errT gr gz s).length d1)), (14, (.slice (gA x.2.1) x.1 (gC x.2.1))), (15, (.int .i64 (x.1 : Int)))]) (fun _ => _) (fun x => (b5, _) :: (b4, _) :: (b3, _) :: (b2, _) :: (b1, _) :: (gt x.2.1 x.2.2 ++ ([]))) (fun x => R.la - x.1) (0, none, []) ⟨by simp, gok.none 1, by simp⟩ ⟨rfl, rfl, rfl, rfl, rfl, rfl, rfl, rfl, trivial⟩ (fun w9 hs => hs) (fun x hF1 => ?_)
        obtain ⟨hla, hgk, hcs⟩ := hF1
        refine ac_seq ?_
        refine ac_seq ?_
        refine ac_region ?_
        refine al_q (q_move rfl) rfl rfl rfl ?_
        refine al_q (q_fieldAddr 1 rfl Try.runUnderlying29 rfl Try.sizeOf22 (by decide) rfl) rfl rfl rfl ?_
        refine al_q (q_load (i := 4) rfl rfl rfl Try.isAgg22) rfl rfl rfl ?_
        refine al_q (q_lenS rfl Try.runUnderlying22) rfl rfl rfl ?_
        refine al_q (q_lss rfl rfl) rfl rfl rfl ?_
        refine al_end ?_
        refine aq_then ?_
        refine ac_cond rfl (fun h3 => ?_) (fun h3 => ?_)
        · have hkl : x.1 < R.la := by have := of_decide_eq_true h3; omega
          obtain ⟨bm, om, hAm, hltm, hgm⟩ := hM.coils.2 (by omega)
          obtain ⟨bg, og, hAg, hltg, hgg⟩ := hG.2 (by have := hG.1; omega)
          obtain ⟨c, hc⟩ : ∃ c, M.coils[x.1]? = some c := ⟨_, List.getElem?_eq_getElem (by omega)⟩
          obtain ⟨g, hg⟩ : ∃ g, gs[x.1]? = some g := ⟨_, List.getElem?_eq_getElem (by omega)⟩
          have hst := steps_of hsp.1 hc
          have hsg := strong_in hsp.2.2.1 hg
          refine ac_skip ?_
          refine aq_then ?_
          refine ac_seq ?_
          refine ac_block ?_
          refine ac_drawF 24 (.s (.s (.s (.s (.s .z))))) (by kernel_rfl) (by kernel_rfl) ?_
          refine ah_take 0 (fun w9 hs => (hs.front (.s (.s (.s (.s (.s (.z)))))))) rfl rfl rfl (by kernel_rfl) (by kernel_rfl) (by kernel_rfl) (fun _ _ _ h => h) rfl (q_move rfl) ?_
          refine ah_take 1 (fun w9 hs => (hs.front (.s (.s (.s (.s (.s (.z)))))))) rfl rfl rfl (by kernel_rfl) (by kernel_rfl) (by kernel_rfl) (fun _ _ _ h => h) rfl (q_fieldAddr 0 rfl Try.runUnderlying32 rfl Try.sizeOf30 (by decide) rfl) ?_
          refine ah_take 2 (fun w9 hs => (hs.front (.s (.s (.s (.s (.s (.z)))))))) rfl rfl rfl (by kernel_rfl) (by kernel_rfl) (by kernel_rfl) (fun _ _ _ h => h) rfl (q_load (i := 3) rfl rfl rfl Try.isAgg30) ?_
          refine ah_take 3 (fun w9 hs => (hs.front (.s (.s (.s (.s (.s (.z)))))))) rfl rfl rfl (by kernel_rfl) (by kernel_rfl) (by kernel_rfl) (fun _ _ _ h => h) rfl (q_move rfl) ?_
          refine ah_take 4 (fun w9 hs => (hs.front (.s (.s (.s (.s (.s (.z)))))))) rfl rfl rfl (by kernel_rfl) (by kernel_rfl) (by kernel_rfl) (fun _ _ _ h => h) rfl (q_indexAddrA (i := x.1) (og + x.1 * 4 + 0) hAg rfl rfl rfl (by omega) Try.runUnderlying30 Try.sizeOf62 rfl) ?_
          refine ah_take 5 (fun w9 hs => (hs.front (.s (.s (.s (.s (.s (.z)))))))) rfl rfl rfl (by kernel_rfl) (by kernel_rfl) (by kernel_rfl) (fun _ _ _ h => h) rfl (q_loadXs (GainD.cells g) rfl Try.isAgg62 Try.sizeOf62 (fun w9 hs j9 v9 h9 => by rw [addr_add]; exact (hs.below.cell (p := ⟨_, _, none⟩) hltg).trans ((hgg x.1 g hg) j9 v9 h9)) rfl) ?_
          refine ah_take 6 (fun w9 hs => (hs.front (.s (.s (.s (.s (.s (.z)))))))) rfl rfl rfl (by kernel_rfl) (by kernel_rfl) (by kernel_rfl) (fun _ _ _ h => h) rfl (q_move rfl) ?_
          refine ah_take 7 (fun w9 hs => (hs.front (.s (.s (.s (.s (.s (.z)))))))) rfl rfl rfl (by kernel_rfl) (by kernel_rfl) (by kernel_rfl) (fun _ _ _ h => h) rfl (q_indexAddrA (i := 0) (oo1 + 0 * 2 + 0) hA1 rfl rfl rfl (by omega) Try.runUnderlying43 Try.sizeOf38 rfl) ?_
          refine ah_take 8 (fun w9 hs => (hs.front (.s (.s (.s (.s (.s (.z)))))))) rfl rfl rfl (by kernel_rfl) (by kernel_rfl) (by kernel_rfl) (fun _ _ _ h => h) rfl (q_loadXs (SpanD.cells x10) rfl Try.isAgg38 Try.sizeOf38 (fun w9 hs j9 v9 h9 => by rw [addr_add]; exact hs.cellOf (.head _) (N1.new _ _ hA1) hlt1 (hget1 0 x10 hx10 j9 v9 h9)) rfl) ?_
          refine ah_take 10 (fun w9 hs => (hs.front (.s (.s (.s (.s (.s (.z)))))))) rfl rfl rfl (by kernel_rfl) (by kernel_rfl) (by kernel_rfl) (fun _ _ _ h => h) rfl (q_move rfl) ?_
          refine ah_take 11 (fun w9 hs => (hs.front (.s (.s (.s (.s (.s (.z)))))))) rfl rfl rfl (by kernel_rfl) (by kernel_rfl) (by kernel_rfl) (fun _ _ _ h => h) rfl (q_indexAddrA (i := 1) (oo1 + 1 * 2 + 0) hA1 rfl rfl rfl (by omega) Try.runUnderlying43 Try.sizeOf38 rfl) ?_
          refine ah_take 12 (fun w9 hs => (hs.front (.s (.s (.s (.s (.s (.z)))))))) rfl rfl rfl (by kernel_rfl) (by kernel_rfl) (by kernel_rfl) (fun _ _ _ h => h) rfl (q_loadXs (SpanD.cells x11) rfl Try.isAgg38 Try.sizeOf38 (fun w9 hs j9 v9 h9 => by rw [addr_add]; exact hs.cellOf (.head _) (N1.new _ _ hA1) hlt1 (hget1 1 x11 hx11 j9 v9 h9)) rfl) ?_
          refine ah_take 14 (fun w9 hs => (hs.front (.s (.s (.s (.s (.s (.z)))))))) rfl rfl rfl (by kernel_rfl) (by kernel_rfl) (by kernel_rfl) (fun _ _ _ h => h) rfl (q_loadAll (i := 2) rfl rfl Try.isAgg34 Try.sizeOf34 rfl) ?_
          refine ah_take 15 (fun w9 hs => (hs.front (.s (.s (.s (.s (.s (.z)))))))) rfl rfl rfl (by kernel_rfl) (by kernel_rfl) (by kernel_rfl) (fun _ _ _ h => h) rfl (q_fieldAddr 1 rfl Try.runUnderlying29 rfl Try.sizeOf22 (by decide) rfl) ?_
          refine ah_take 16 (fun w9 hs => (hs.front (.s (.s (.s (.s (.s (.z)))))))) rfl rfl rfl (by kernel_rfl) (by kernel_rfl) (by kernel_rfl) (fun _ _ _ h => h) rfl (q_load (i := 4) rfl rfl rfl Try.isAgg22) ?_
          refine ah_take 17 (fun w9 hs => (hs.front (.s (.s (.s (.s (.s (.z)))))))) rfl rfl rfl (by kernel_rfl) (by kernel_rfl) (by kernel_rfl) (fun _ _ _ h => h) rfl (q_move rfl) ?_
          refine ah_take 18 (fun w9 hs => (hs.front (.s (.s (.s (.s (.s (.z)))))))) rfl rfl rfl (by kernel_rfl) (by kernel_rfl) (by kernel_rfl) (fun _ _ _ h => h) rfl (q_indexAddrA (i := x.1) (om + x.1 * 8 + 0) hAm rfl rfl rfl (by omega) Try.runUnderlying22 Try.sizeOf59 rfl) ?_
          refine ah_take 19 (fun w9 hs => (hs.front (.s (.s (.s (.s (.s (.z)))))))) rfl rfl rfl (by kernel_rfl) (by kernel_rfl) (by kernel_rfl) (fun _ _ _ h => h) rfl (q_fieldAddr (om + x.1 * 8 + 5) rfl Try.runUnderlying59 rfl Try.sizeOf3 (by decide) rfl) ?_
          refine ah_take 20 (fun w9 hs => (hs.front (.s (.s (.s (.s (.s (.z)))))))) rfl rfl rfl (by kernel_rfl) (by kernel_rfl) (by kernel_rfl) (fun _ _ _ h => h) rfl (q_loadX rfl Try.isAgg3 (fun w9 hs => (hs.below.cell (p := ⟨_, _, none⟩) hltm).trans ((hgm x.1 c hc) 5 _ rfl))) ?_
          refine ah_one 9 rfl (by kernel_rfl) (fun hok1 hcl1 => ?_)
          refine al_call Try.call8 (.cons rfl .nil) rfl rfl (fun w4 hs4 => ?_)
          refine (rproved_any x10.lo x10.hi _).mono ?_
          rintro e u4 ⟨rfl, hb_4⟩
          refine ⟨_, rfl, hb_4, ?_⟩
          clear hs4
          refine al_end (ah_back hok1 hcl1 (fun w9 hs => ((hs.fewer 1 rfl).front (.s (.s (.s (.s (.s (.z)))))))) ?_)
          refine ah_one 13 rfl (by kernel_rfl) (fun hok2 hcl2 => ?_)
          refine al_call Try.call8 (.cons rfl .nil) rfl rfl (fun w5 hs5 => ?_)
          refine (rproved_any x11.lo x11.hi _).mono ?_
          rintro e u5 ⟨rfl, hb_5⟩
          refine ⟨_, rfl, hb_5, ?_⟩
          clear hs5
          refine al_end (ah_back hok2 hcl2 (fun w9 hs => ((hs.fewer 2 rfl).front (.s (.s (.s (.s (.s (.z)))))))) ?_)
          refine ah_one 21 rfl (by kernel_rfl) (fun hok3 hcl3 => ?_)
          refine al_call Try.call32 (.cons rfl (.cons rfl (.cons rfl (.cons rfl (.cons rfl .nil))))) rfl rfl (fun w6 hs6 => ?_)
          refine (ranswer_any g.r g.z g.sr g.sz (provedL x10.lo x10.hi) (provedL x11.lo x11.hi) y0 y1 c.step _ hsg.1.1.1 hsg.1.1.2 hsg.1.2.1 hsg.1.2.2 hsg.2.1.1 hsg.2.1.2 hsg.2.2.1 hsg.2.2.2 (by omega) (by omega) (by omega) (by omega) (by omega) (by omega) (by omega) (by omega) (by omega) (by omega)).mono ?_
          rintro e u6 ⟨rfl, hb_6⟩
          refine ⟨_, rfl, hb_6, ?_⟩
          clear hs6
          refine al_end (ah_back hok3 hcl3 (fun w9 hs => ((hs.fewer 3 rfl).front (.s (.s (.s (.s (.s (.z)))))))) ?_)
          refine ah_one 22 rfl (by kernel_rfl) (fun hok4 hcl4 => ?_)
          refine al_new (fun b => .slice (some ⟨b, 0, none⟩) 1 1) (r_buildSlice (.cons rfl .nil) (cpr_bs_int_1_0_ _ rfl)) rfl rfl rfl ?_
          intro b6
          refine al_end (ah_back hok4 hcl4 (fun w9 hs => (((hs.fewer 3 rfl).tail 1 rfl).front (.s (.s (.s (.s (.s (.z)))))))) ?_)
          refine ah_one 23 rfl (by kernel_rfl) (fun hok5 hcl5 => ?_)
          refine al_grow (z := 1) (bytes := 8) (zv := (.int .i64 0)) (o := x.2.1) (cs := x.2.2) (vs := [.int .i64 (cutL ((g.r * provedL x10.lo x10.hi + g.z * provedL x11.lo x11.hi + g.sr * y0 + g.sz * y1).tdiv 1000) c.step)]) rfl rfl (.s (.s (.s (.s (.s (.s (.z))))))) hgk (Sor.box (j := 0) rfl rfl rfl) Try.underlying50 (by kernel_rfl) rfl (by omega) (by decide) rfl rfl (fun o_1 g_1 => ?_)
          refine ⟨_, (.s (.s (.s (.s (.s (.s (.z))))))), ?_⟩
          refine al_end (ah_back hok5 hcl5 (fun w9 hs => (((hs.fewer 3 rfl).tail 1 rfl).front (.s (.s (.s (.s (.s (.z)))))))) ?_)
          refine ah_one 24 rfl (by kernel_rfl) (fun hok6 hcl6 => ?_)
          refine al_q (q_assign rfl) rfl rfl rfl ?_
          refine al_end (ah_last (by kernel_rfl) ?_)
          refine aq_inN ?_
          refine aq_then ?_
          refine ac_region ?_
          refine al_q (q_move rfl) rfl rfl rfl ?_
          refine al_q (q_add rfl rfl (by omega)) rfl rfl rfl ?_
          refine al_q (q_assign rfl) rfl rfl rfl ?_
          refine al_end ?_
          refine aq_then ?_
          skip
          refine aq_round ((x.1 + 1, o_1, x.2.2 ++ [.int .i64 (cutL ((g.r * provedL x10.lo x10.hi + g.z * provedL x11.lo x11.hi + g.sr * y0 + g.sz * y1).tdiv 1000) c.step)])) (by simp only; omega) ⟨by simp only; omega, g_1, by simp only; rw [hcs, take_get (wishL_get hc hg), List.map_append]; simp [wish1, hp1, hq1]⟩ ⟨rfl, rfl, rfl, rfl, rfl, rfl, rfl, rfl, trivial⟩ (fun w9 hs => ((hs.fewer 3 rfl).tail 1 rfl))
        · have hke : x.1 = R.la := by have := of_decide_eq_false h3; omega
          refine ac_exit ?_
          refine aq_thenE ?_
          refine aq_thenE ?_
          refine aq_hit ?_
          refine aq_then ?_
          refine ac_seq ?_
          refine ac_region ?_
          refine al_q (q_move rfl) rfl rfl rfl ?_
          refine al_q (q_assign rfl) rfl rfl rfl ?_
          refine al_q (q_assign rfl) rfl rfl rfl ?_
          refine al_end ?_
          refine aq_then ?_
          refine ac_ret ?_
          refine ret2 Try.results14 rfl rfl (fun w9 hs => ?_)
          have he : wishE M gs most y0 y1 gr gz s = 0 := by unfold wishE; rw [if_pos hsb, if_pos hmb, he0]
          have ht : wishT M gs most y0 y1 gr gz s = (wishL M gs (provedL (errL gr gz s).1 (errL gr gz s).2.1) (provedL (errL gr gz s).2.2.1 (errL gr gz s).2.2.2.1) y0 y1) := by unfold wishT; rw [if_pos he]
          have hn9 : x.1 = (wishL M gs (provedL (errL gr gz s).1 (errL gr gz s).2.1) (provedL (errL gr gz s).2.2.1 (errL gr gz s).2.2.2.1) y0 y1).length := by omega
          exact ⟨gA x.2.1, gC x.2.1, by rw [ht, he, ← hn9], by rw [ht, ← hn9]; exact hs.grown (enc := intCells) (o := x.2.1) (cs := x.2.2) (fun _ => rfl) (fun y hy => by simp [hy]) hgk (by rw [hcs, List.take_of_length_le (by omega), flat_int]) hn9.symm, by rw [ht]; omega, hs.below⟩

end Go.Proofs.Ytcdhanfjcnfjjaa
end
section
/- The laws of layer 7: ints, large, over this seat's translation (written by mk_cti.py). -/
namespace Go.Proofs.Ytcdhanfjcnfjjaa
set_option linter.unusedVariables false
set_option linter.unusedSimpArgs false
open Go.RowKit Go.Shelf

theorem same_drop {xs ys : List Int} {k : Nat} {a b : Int} (h1 : xs[k]? = some a) (h2 : ys[k]? = some b) : decide (xs.drop k = ys.drop k) = (decide (a = b) && decide (xs.drop (k + 1) = ys.drop (k + 1))) := by
  obtain ⟨k1, rfl⟩ := List.getElem?_eq_some_iff.1 h1
  obtain ⟨k2, rfl⟩ := List.getElem?_eq_some_iff.1 h2
  rw [List.drop_eq_getElem_cons k1, List.drop_eq_getElem_cons k2]
  simp only [List.cons.injEq, Bool.decide_and]

set_option maxRecDepth 100000 in
set_option maxHeartbeats 4000000 in
theorem ints_any (A B : Option Addr) (la ca lb cb : Nat) (xs ys : List Int) (w : World) (h1 : IsT 1 intCells w A la xs) (h2 : IsT 1 intCells w B lb ys) (l1 : la ≤ 1000000000000000) (l2 : lb ≤ 1000000000000000) :
    Calls Try.prog 11 #[.slice A la ca, .slice B lb cb] w (Ret (.bool (decide (xs = ys))) w) := by
  have n1 := h1.1
  have n2 := h2.1
  have I1 := Lib.hid h1
  have I2 := Lib.hid h2
  have HG : Hid (decide (xs = ys) = decide (xs.drop 0 = ys.drop 0)) := Lib.hid rfl
  have HN : Hid (la ≠ lb → false = decide (xs = ys)) := Lib.hid (fun h => (decide_eq_false (fun e => h (by rw [← n1, ← n2, e]))).symm)
  clear h1 h2
  generalize decide (xs = ys) = G at *
  by_cases b1 : la = lb
  · have e1 := (int_eq la lb).trans (decide_eq_true b1)
    subst b1
    have HG2 : Hid (decide (xs.drop 0 = ys.drop 0) = G) := Lib.hid HG.out.symm
    clear HG HN
    go_enter Try.func11, Try.ntmps11
    go_wp2_with fail
    go_loopw [5] (fun i wr => ∃ j : Nat, j ≤ la ∧ i = .int .i64 j ∧ Hid (decide (xs.drop j = ys.drop j) = G) ∧ Below w.heap.size w wr) (fun i _ => la - (intOf i).toNat)
    case atStart => exact ⟨0, Nat.zero_le _, rfl, HG2, by (with_reducible repeat first | exact Below.refl _ _ | assumption | ((first | refine Below.setCell ?_ ?_ _ | refine Below.alloc ?_ ?_ _); rotate_left; exact (by first | omega | (simp; done) | (simp; omega))) | refine Below.drew ?_ | refine Below_drewN ?_ _)⟩
    case round =>
      obtain ⟨j, hj, rfl, hG, hB⟩ := hrel
      have sz0 := hB.size
      by_cases hlt : j < la
      · obtain ⟨-, hcl1⟩ := I1.out.below hB
        obtain ⟨b1, o1, rfl, hb1, hcl1⟩ := hcl1 (by omega)
        obtain ⟨-, hcl2⟩ := I2.out.below hB
        obtain ⟨b2, o2, rfl, hb2, hcl2⟩ := hcl2 (by omega)
        obtain ⟨x, hx⟩ : ∃ x, xs[j]? = some x := ⟨_, List.getElem?_eq_getElem (by omega)⟩
        obtain ⟨y, hy⟩ : ∃ y, ys[j]? = some y := ⟨_, List.getElem?_eq_getElem (by omega)⟩
        have x0 : wr.cell? ⟨b1, o1 + j, none⟩ = some (.int .i64 x) := by have h := hcl1 j x hx 0 _ rfl; simpa using h
        have y0 : wr.cell? ⟨b2, o2 + j, none⟩ = some (.int .i64 y) := by have h := hcl2 j y hy 0 _ rfl; simpa using h
        have HS := Lib.hid (hG.out.symm.trans (same_drop hx hy))
        clear hcl1 hcl2 hx hy hG
        have HZ : Hid (∀ w' : World, Below wr.heap.size wr w' → (Below wr.heap.size wr w' ∧ w'.cell? ⟨b1, o1 + j, none⟩ = some (.int .i64 x) ∧ w'.cell? ⟨b2, o2 + j, none⟩ = some (.int .i64 y))) := Lib.hid (fun w' h => ⟨h, (h.cell (p := ⟨b1, o1 + j, none⟩) hb1).trans x0, (h.cell (p := ⟨b2, o2 + j, none⟩) hb2).trans y0⟩)
        have jc : (0 : Int) ≤ j := by omega
        have jn : ((j : Int)).toNat = j := by omega
        by_cases e : x = y
        · have e2 : (x == y) = true := by rw [e]; simp
          have HT : Hid (decide (xs.drop (j + 1) = ys.drop (j + 1)) = G) := Lib.hid (by rw [HS.out, decide_eq_true e, Bool.true_and])
          clear HS
          go_wp2_with fail
          go_region_held3 (fun w' => Below wr.heap.size wr w' ∧ w'.cell? ⟨b1, o1 + j, none⟩ = some (.int .i64 x) ∧ w'.cell? ⟨b2, o2 + j, none⟩ = some (.int .i64 y)) (exact HZ.out _ (by (repeat first | with_reducible exact Below.refl _ _ | with_reducible assumption | with_reducible exact (‹Below _ _ _ ∧ _›).1 | (with_reducible refine Below.alloc ?_ ?_ _; rotate_left; exact (by first | omega | (simp; done) | (simp; omega))) | with_reducible refine Below.drew ?_))) (fail)
          all_goals go_wp2_with fail
          go_roundw
          case rel => exact ⟨j + 1, by omega, by go_num, HT, by (with_reducible repeat first | exact Below.refl _ _ | assumption | ((first | refine Below.setCell ?_ ?_ _ | refine Below.alloc ?_ ?_ _); rotate_left; exact (by first | omega | (simp; done) | (simp; omega))) | refine Below.drew ?_ | refine Below_drewN ?_ _)⟩
          case measure => simp [intOf]; omega
        · have e2 : (x == y) = false := by rw [beq_eq_false_iff_ne]; exact e
          have HT : Hid (false = G) := Lib.hid (by rw [HS.out, decide_eq_false e, Bool.false_and])
          clear HS
          go_wp2_with fail
          go_region_held3 (fun w' => Below wr.heap.size wr w' ∧ w'.cell? ⟨b1, o1 + j, none⟩ = some (.int .i64 x) ∧ w'.cell? ⟨b2, o2 + j, none⟩ = some (.int .i64 y)) (exact HZ.out _ (by (repeat first | with_reducible exact Below.refl _ _ | with_reducible assumption | with_reducible exact (‹Below _ _ _ ∧ _›).1 | (with_reducible refine Below.alloc ?_ ?_ _; rotate_left; exact (by first | omega | (simp; done) | (simp; omega))) | with_reducible refine Below.drew ?_))) (fail)
          all_goals go_wp2_with fail
          go_ret
          exact ⟨by rw [← HT.out]; rfl, by (with_reducible repeat first | exact Below.refl _ _ | assumption | ((first | refine Below.setCell ?_ ?_ _ | refine Below.alloc ?_ ?_ _); rotate_left; exact (by first | omega | (simp; done) | (simp; omega))) | refine Below.drew ?_ | refine Below_drewN ?_ _)⟩
      · have HT : Hid (true = G) := Lib.hid (by
          have h := hG.out
          rw [List.drop_of_length_le (by omega), List.drop_of_length_le (by omega)] at h
          exact h)
        clear hG
        go_wp2_with fail
        go_ret
        exact ⟨by rw [← HT.out]; rfl, by (with_reducible repeat first | exact Below.refl _ _ | assumption | ((first | refine Below.setCell ?_ ?_ _ | refine Below.alloc ?_ ?_ _); rotate_left; exact (by first | omega | (simp; done) | (simp; omega))) | refine Below.drew ?_ | refine Below_drewN ?_ _)⟩
  · have e1 := (int_eq la lb).trans (decide_eq_false b1)
    have HT := Lib.hid (HN.out b1)
    clear HG HN
    go_enter Try.func11, Try.ntmps11
    go_wp2_with fail
    go_ret
    exact ⟨by rw [← HT.out]; rfl, by (with_reducible repeat first | exact Below.refl _ _ | assumption | ((first | refine Below.setCell ?_ ?_ _ | refine Below.alloc ?_ ?_ _); rotate_left; exact (by first | omega | (simp; done) | (simp; omega))) | refine Below.drew ?_ | refine Below_drewN ?_ _)⟩

def largeB (M : MachD) (R : MachR) : Bool := decide (13 < (R.la : Int)) || (decide (17 < (R.lb : Int)) || (decide (17 < (R.lc : Int)) || (decide (25 < (R.ld : Int)) || decide (100 < (M.name.size : Int)))))
theorem largeB_bd {M : MachD} {R : MachR} (h : largeB M R = false) : R.la ≤ 13 ∧ R.lb ≤ 17 ∧ R.lc ≤ 17 ∧ R.ld ≤ 25 ∧ M.name.size ≤ 100 := by
  unfold largeB at h
  simp only [Bool.or_eq_false_iff, decide_eq_false_iff_not] at h
  omega

set_option maxRecDepth 100000 in
set_option maxHeartbeats 8000000 in
theorem large_any (R : MachR) (M : MachD) (w : World) :
    Calls Try.prog 6 #[.agg (machCells R M)] w (Ret (.bool (largeB M R)) w) := by
  obtain ⟨A, B, Cl, D, la, ca, lb, cb, lc, cl, ld, cd⟩ := R
  obtain ⟨name, coils, shells, limits, ⟨r, z, nr, nz, step⟩, sensors⟩ := M
  unfold largeB
  dsimp only
  show Calls Try.prog 6 #[.agg #[.string name, .slice A la ca, .slice B lb cb, .slice Cl lc cl, .int .i64 r, .int .i64 z, .int .i64 nr, .int .i64 nz, .int .i64 step, .slice D ld cd]] w _
  cases q0 : decide (13 < (la : Int))
  rotate_left
  · go_enter Try.func6, Try.ntmps6
    go_wp2_with fail
    go_ret
    exact ⟨by simp, by (with_reducible repeat first | exact Below.refl _ _ | assumption | ((first | refine Below.setCell ?_ ?_ _ | refine Below.alloc ?_ ?_ _); rotate_left; exact (by first | omega | (simp; done) | (simp; omega))) | refine Below.drew ?_ | refine Below_drewN ?_ _)⟩
  cases q1 : decide (17 < (lb : Int))
  rotate_left
  · go_enter Try.func6, Try.ntmps6
    go_wp2_with fail
    go_ret
    exact ⟨by simp, by (with_reducible repeat first | exact Below.refl _ _ | assumption | ((first | refine Below.setCell ?_ ?_ _ | refine Below.alloc ?_ ?_ _); rotate_left; exact (by first | omega | (simp; done) | (simp; omega))) | refine Below.drew ?_ | refine Below_drewN ?_ _)⟩
  cases q2 : decide (17 < (lc : Int))
  rotate_left
  · go_enter Try.func6, Try.ntmps6
    go_wp2_with fail
    go_ret
    exact ⟨by simp, by (with_reducible repeat first | exact Below.refl _ _ | assumption | ((first | refine Below.setCell ?_ ?_ _ | refine Below.alloc ?_ ?_ _); rotate_left; exact (by first | omega | (simp; done) | (simp; omega))) | refine Below.drew ?_ | refine Below_drewN ?_ _)⟩
  cases q3 : decide (25 < (ld : Int))
  rotate_left
  · go_enter Try.func6, Try.ntmps6
    go_wp2_with fail
    go_ret
    exact ⟨by simp, by (with_reducible repeat first | exact Below.refl _ _ | assumption | ((first | refine Below.setCell ?_ ?_ _ | refine Below.alloc ?_ ?_ _); rotate_left; exact (by first | omega | (simp; done) | (simp; omega))) | refine Below.drew ?_ | refine Below_drewN ?_ _)⟩
  cases q4 : decide (100 < (name.size : Int))
  rotate_left
  · go_enter Try.func6, Try.ntmps6
    go_wp2_with fail
    go_ret
    exact ⟨by simp, by (with_reducible repeat first | exact Below.refl _ _ | assumption | ((first | refine Below.setCell ?_ ?_ _ | refine Below.alloc ?_ ?_ _); rotate_left; exact (by first | omega | (simp; done) | (simp; omega))) | refine Below.drew ?_ | refine Below_drewN ?_ _)⟩
  go_enter Try.func6, Try.ntmps6
  go_wp2_with fail
  go_ret
  exact ⟨by simp, by (with_reducible repeat first | exact Below.refl _ _ | assumption | ((first | refine Below.setCell ?_ ?_ _ | refine Below.alloc ?_ ?_ _); rotate_left; exact (by first | omega | (simp; done) | (simp; omega))) | refine Below.drew ?_ | refine Below_drewN ?_ _)⟩

end Go.Proofs.Ytcdhanfjcnfjjaa
end
