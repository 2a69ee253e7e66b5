import Derived.Test.YtcdhanfjcnfjjaaKAR
import Derived.Test.YtcdhanfjcnfjjaaKAT
import Derived.Test.YtcdhanfjcnfjjaaKAV
import Derived.Test.YtcdhanfjcnfjjaaRows
import Derived.KernelRfl
import Derived.Laws.StructEq
section
/- Package control: Wish, its list new, over this seat's translation (written by ax_cp.py). -/
namespace Go.Proofs.Ytcdhanfjcnfjjaa
set_option linter.unusedVariables false
set_option linter.unusedSimpArgs false
open Go.RowKit

def inW (l : List Int) (n k : Nat) : List Value := (l.take k).map (Value.int .i64) ++ List.replicate (n - k) (.int .i64 0)
theorem inW_zero (l : List Int) (n : Nat) : inW l n 0 = List.replicate n (.int .i64 0) := by simp [inW]
theorem inW_len (l : List Int) (n k : Nat) (h : k ≤ n) (hl : l.length = n) : (inW l n k).length = n := by simp [inW, hl]; omega
theorem inW_set (l : List Int) (n k : Nat) (v : Int) (hv : l[k]? = some v) (hl : l.length = n) : (inW l n k).set k (.int .i64 v) = inW l n (k + 1) := by
  obtain ⟨hk, e⟩ := List.getElem?_eq_some_iff.1 hv
  unfold inW
  rw [List.set_append_right _ _ (by simp; omega)]
  obtain ⟨m, hm⟩ : ∃ m, n - k = m + 1 := ⟨n - k - 1, by omega⟩
  rw [show k - ((l.take k).map (Value.int .i64)).length = 0 by simp; omega, hm, List.replicate_succ, List.set_cons_zero, show n - (k + 1) = m by omega, List.take_succ_eq_append_getElem hk, e]
  simp
theorem inW_all (l : List Int) (n : Nat) (hl : l.length = n) : inW l n n = l.map (Value.int .i64) := by
  unfold inW; rw [List.take_of_length_le (by omega)]; simp

theorem cpw_bs_int_4_0_1_2_3 (a0 a1 a2 a3 : Value) (ha0 : a0.oneCell' = true) (ha1 : a1.oneCell' = true) (ha2 : a2.oneCell' = true) (ha3 : a3.oneCell' = true) : ∀ w, (Instr.buildSlice 50 4 #[(0, a0), (1, a1), (2, a2), (3, a3)]).run Try.prog w = .ok (.slice (some ⟨w.heap.size, 0, none⟩) 4 4) (w.alloc (.cells [a0, a1, a2, a3].toArray 3)) := by
  have ea0 : a0.cells = #[a0] := cells_one ha0
  have ea1 : a1.cells = #[a1] := cells_one ha1
  have ea2 : a2.cells = #[a2] := cells_one ha2
  have ea3 : a3.cells = #[a3] := cells_one ha3
  intro w; (simp [Instr.buildSlice, Instr.fill, cells_agg, newRow, Try.runUnderlying50, Try.zeroValue3, Try.sizeOf3, ea0, ea1, ea2, ea3] <;> (rw [(by kernel_rfl : Array.range 4 = #[0, 1, 2, 3])]; simp [Value.cells]))

set_option maxRecDepth 100000 in
theorem wishN_any (R : MachR) (M : MachD) (G : Option Addr) (ng cg : Nat) (gs : List GainD) (most y0 y1 gr gz : Int) (s : ShapeD) (w : World) (hM : IsM w R M) (hG : IsT 4 GainD.cells w G ng gs) (hn : ng ≤ 1000000000000000) : Calls Try.prog 10 #[(.agg (machCells R M)), (.agg #[.slice G ng cg, .int .i64 most]), (.agg #[.int .i64 y0, .int .i64 y1]), (.agg #[.int .i64 gr, .int .i64 gz]), s.v] w (fun e w' => ∃ A c, e = .returned (.tuple #[.slice A (wishT M gs most y0 y1 gr gz s).length c, .int .i64 (wishE M gs most y0 y1 gr gz s)]) ∧ NewT 1 intCells w.heap.size w' A (wishT M gs most y0 y1 gr gz s).length c (wishT M gs most y0 y1 gr gz s) ∧ (wishT M gs most y0 y1 gr gz s).length ≤ 1000 ∧ Below w.heap.size w w') := by
  have e1 := hM.coils.1
  have e2 := hG.1
  refine calls_ax (vs := [(.agg (machCells R M)), (.agg #[.slice G ng cg, .int .i64 most]), (.agg #[.int .i64 y0, .int .i64 y1]), (.agg #[.int .i64 gr, .int .i64 gz]), s.v]) Try.func10 rfl rfl ?_
  refine ac_seq ?_
  refine ac_region ?_
  refine al_new (fun b => .pointer (some ⟨b, 0, none⟩)) (r_box rfl rfl) rfl rfl rfl ?_
  intro b1
  refine al_new (fun b => .pointer (some ⟨b, 0, none⟩)) (r_box rfl rfl) rfl rfl rfl ?_
  intro b2
  refine al_new (fun b => .pointer (some ⟨b, 0, none⟩)) (r_box rfl rfl) rfl rfl rfl ?_
  intro b3
  refine al_new (fun b => .pointer (some ⟨b, 0, none⟩)) (r_box rfl rfl) rfl rfl rfl ?_
  intro b4
  refine al_new (fun b => .pointer (some ⟨b, 0, none⟩)) (r_box rfl rfl) rfl rfl rfl ?_
  intro b5
  refine al_q (q_assign rfl) rfl rfl rfl ?_
  refine al_q (q_assign rfl) rfl rfl rfl ?_
  refine al_end ?_
  refine aq_then ?_
  refine ac_seq ?_
  refine ac_seq ?_
  refine ac_region ?_
  refine al_q (q_loadAll (i := 4) rfl rfl Try.isAgg29 Try.sizeOf29 rfl) rfl rfl rfl ?_
  refine al_q (q_loadAll (i := 3) rfl rfl Try.isAgg32 Try.sizeOf32 rfl) rfl rfl rfl ?_
  refine al_call Try.call16 (.cons rfl (.cons rfl .nil)) rfl rfl (fun w1 hs1 => ?_)
  refine (setup_any R M G ng cg gs most _ (hM.below hs1.below) (hG.below hs1.below) hn).mono ?_
  rintro e u1 ⟨rfl, hb_1⟩
  refine ⟨_, rfl, hb_1, ?_⟩
  clear hs1
  refine al_q (q_not rfl) rfl rfl rfl ?_
  refine al_q (q_move rfl) rfl rfl rfl ?_
  refine aq_split 23 rfl (fun hb1 => ?_) (fun hb1 => ?_)
  · have hsb : setupB M gs most = false := by simpa using hb1
    refine al_skip rfl rfl rfl ?_
    refine al_skip rfl rfl rfl ?_
    refine al_skip rfl rfl rfl ?_
    refine al_q (q_pickT rfl rfl) rfl rfl rfl ?_
    refine al_end ?_
    refine aq_then ?_
    refine ac_condT rfl ?_
    refine ac_seq ?_
    refine ac_region ?_
    refine al_q (q_assign rfl) rfl rfl rfl ?_
    refine al_q (q_assign rfl) rfl rfl rfl ?_
    refine al_end ?_
    refine aq_then ?_
    refine ac_ret ?_
    refine aq_thenR ?_
    refine ret2 Try.results10 rfl rfl (fun w9 hs => ?_)
    have he : wishE M gs most y0 y1 gr gz s = 1 := by unfold wishE; rw [if_neg (by rw [hsb]; decide)]
    have ht : wishT M gs most y0 y1 gr gz s = [] := by unfold wishT; rw [if_neg (by rw [he]; decide)]
    exact ⟨none, 0, by rw [ht, he]; rfl, by rw [ht]; exact ⟨IsT.nil _ _ _ _, fun b off e => (by cases e), Nat.le_refl _, by omega⟩, by rw [ht]; simp, hs.below⟩
  · have hsb : setupB M gs most = true := by simpa using hb1
    have hsp := setupB_parts hsb
    have hs0 := sound_of hsp.1
    have f1 := hs0.coils.1
    refine al_q (q_loadAll (i := 2) rfl rfl Try.isAgg34 Try.sizeOf34 rfl) rfl rfl rfl ?_
    refine al_call Try.call21 (.cons rfl .nil) rfl rfl (fun w2 hs2 => ?_)
    refine (mem_any y0 y1 _).mono ?_
    rintro e u2 ⟨rfl, hb_2⟩
    refine ⟨_, rfl, hb_2, ?_⟩
    clear hs2
    refine al_q (q_not rfl) rfl rfl rfl ?_
    refine al_q (q_pickF rfl rfl) rfl rfl rfl ?_
    refine al_end ?_
    refine aq_then ?_
    refine ac_cond rfl (fun h1 => ?_) (fun h1 => ?_)
    · have hmb : memB y0 y1 = false := by simpa using h1
      refine ac_seq ?_
      refine ac_region ?_
      refine al_q (q_assign rfl) rfl rfl rfl ?_
      refine al_q (q_assign rfl) rfl rfl rfl ?_
      refine al_end ?_
      refine aq_then ?_
      refine ac_ret ?_
      refine aq_thenR ?_
      refine ret2 Try.results10 rfl rfl (fun w9 hs => ?_)
      have he : wishE M gs most y0 y1 gr gz s = 1 := by unfold wishE; rw [if_pos hsb, if_neg (by rw [hmb]; decide)]
      have ht : wishT M gs most y0 y1 gr gz s = [] := by unfold wishT; rw [if_neg (by rw [he]; decide)]
      exact ⟨none, 0, by rw [ht, he]; rfl, by rw [ht]; exact ⟨IsT.nil _ _ _ _, fun b off e => (by cases e), Nat.le_refl _, by omega⟩, by rw [ht]; simp, hs.below⟩
    · have hmb : memB y0 y1 = true := by simpa using h1
      have hmm : (-1000000000 ≤ y0 ∧ y0 ≤ 1000000000) ∧ -1000000000 ≤ y1 ∧ y1 ≤ 1000000000 := by
        have h9 := hmb; unfold memB at h9; rw [Bool.and_eq_true] at h9; exact ⟨wthn_iff.1 h9.1, wthn_iff.1 h9.2⟩
      refine ac_skip ?_
      refine aq_then ?_
      refine ac_seq ?_
      refine ac_region ?_
      refine al_q (q_loadAll (i := 1) rfl rfl Try.isAgg36 Try.sizeOf36 rfl) rfl rfl rfl ?_
      refine al_q (q_loadAll (i := 0) rfl rfl Try.isAgg40 Try.sizeOf40 rfl) rfl rfl rfl ?_
      refine al_call Try.call20 (.cons rfl (.cons rfl .nil)) rfl rfl (fun w3 hs3 => ?_)
      refine (cproved_any gr gz s _).mono ?_
      rintro e u3 ⟨rfl, hb_3⟩
      refine ⟨_, rfl, hb_3, ?_⟩
      clear hs3
      refine al_q (q_move rfl) rfl rfl rfl ?_
      refine al_q (q_extract rfl rfl) rfl rfl rfl ?_
      refine al_q (q_extract rfl rfl) rfl rfl rfl ?_
      refine al_q (q_extract rfl rfl) rfl rfl rfl ?_
      refine al_q (q_assign rfl) rfl rfl rfl ?_
      refine al_q (q_assign rfl) rfl rfl rfl ?_
      refine al_q (q_assign rfl) rfl rfl rfl ?_
      refine al_end ?_
      refine aq_then ?_
      refine ac_seq ?_
      refine ac_seq ?_
      refine ac_region ?_
      refine al_q (q_move rfl) rfl rfl rfl ?_
      refine al_q (q_neq rfl rfl) rfl rfl rfl ?_
      refine al_end ?_
      refine aq_then ?_
      refine ac_cond rfl (fun h2 => ?_) (fun h2 => ?_)
      · have hee : ¬ (errL gr gz s).2.2.2.2 = 0 := by simpa using h2
        refine ac_seq ?_
        refine ac_region ?_
        refine al_q (q_move rfl) rfl rfl rfl ?_
        refine al_q (q_assign rfl) rfl rfl rfl ?_
        refine al_q (q_assign rfl) rfl rfl rfl ?_
        refine al_end ?_
        refine aq_then ?_
        refine ac_ret ?_
        refine aq_thenR ?_
        refine ret2 Try.results10 rfl rfl (fun w9 hs => ?_)
        have he : wishE M gs most y0 y1 gr gz s = (errL gr gz s).2.2.2.2 := by unfold wishE; rw [if_pos hsb, if_pos hmb]
        have ht : wishT M gs most y0 y1 gr gz s = [] := by unfold wishT; rw [if_neg (by rw [he]; exact hee)]
        exact ⟨none, 0, by rw [ht, he]; rfl, by rw [ht]; exact ⟨IsT.nil _ _ _ _, fun b off e => (by cases e), Nat.le_refl _, by omega⟩, by rw [ht]; simp, hs.below⟩
      · have hee : (errL gr gz s).2.2.2.2 = 0 := by simpa using h2
        have hwl : (wishL M gs (provedL (errL gr gz s).1 (errL gr gz s).2.1) (provedL (errL gr gz s).2.2.1 (errL gr gz s).2.2.2.1) y0 y1).length = R.la := by rw [wishL_len hsp.2.1]; omega
        refine ac_skip ?_
        refine aq_then ?_
        refine ac_seq ?_
        refine ac_region ?_
        refine al_q (q_fieldAddr 1 rfl Try.runUnderlying29 rfl Try.sizeOf22 (by decide) rfl) rfl rfl rfl ?_
        refine al_q (q_load (i := 4) rfl rfl rfl Try.isAgg22) rfl rfl rfl ?_
        refine al_q (q_lenS rfl Try.runUnderlying22) rfl rfl rfl ?_
        refine al_makeInts (n := R.la) (z := (.int .i64 0)) (bytes := 8) rfl rfl rfl Try.underlying50 (by kernel_rfl) rfl (by omega) (by decide) rfl rfl ?_
        intro b6
        refine al_q (q_assign rfl) rfl rfl rfl ?_
        refine al_end ?_
        refine aq_then ?_
        refine ac_seq ?_
        refine ac_seq ?_
        refine ac_region ?_
        refine al_q (q_fieldAddr 1 rfl Try.runUnderlying29 rfl Try.sizeOf22 (by decide) rfl) rfl rfl rfl ?_
        refine al_q (q_load (i := 5) rfl rfl rfl Try.isAgg22) rfl rfl rfl ?_
        refine al_q (q_lenS rfl Try.runUnderlying22) rfl rfl rfl ?_
        refine al_q (q_move rfl) rfl rfl rfl ?_
        refine al_end ?_
        refine aq_then ?_
        refine ac_block ?_
        refine ac_loop (β := Nat) (fun k => k ≤ R.la) (fun k => [(6, (.pointer (some ⟨b2, 0, none⟩))), (7, (.pointer (some ⟨b3, 0, none⟩))), (10, (.slice none 0 0)), (11, (.int .i64 0)), (12, (.int .i64 (provedL (errL gr gz s).1 (errL gr gz s).2.1))), (13, (.int .i64 (provedL (errL gr gz s).2.2.1 (errL gr gz s).2.2.2.1))), (15, (.slice (some ⟨b6, 0, none⟩) (R.la) (R.la))), (43, (.slice (R.A) R.la R.ca)), (44, (.int .i64 (R.la : Int))), (45, (.int .i64 (k : Int)))]) (fun _ => _) (fun k => [(b6, .cells (inW (wishL M gs (provedL (errL gr gz s).1 (errL gr gz s).2.1) (provedL (errL gr gz s).2.2.1 (errL gr gz s).2.2.2.1) y0 y1) R.la k)), (b5, _), (b4, _), (b3, _), (b2, _), (b1, _)]) (fun k => R.la - k) 0 (by omega) ⟨rfl, rfl, rfl, rfl, rfl, rfl, rfl, rfl, rfl, rfl, trivial⟩ (fun w9 hs => (by rw [inW_zero]; exact hs)) (fun k hF1 => ?_)
        refine ac_seq ?_
        refine ac_region ?_
        refine al_q (q_lss rfl rfl) rfl rfl rfl ?_
        refine al_end ?_
        refine aq_then ?_
        refine ac_seq ?_
        refine ac_cond rfl (fun h3 => ?_) (fun h3 => ?_)
        · have hkl : k < R.la := by have := of_decide_eq_true h3; omega
          obtain ⟨bm, om, hAm, hltm, hgm⟩ := hM.coils.2 (by omega)
          obtain ⟨bg, og, hAg, hltg, hgg⟩ := hG.2 (by have := hG.1; omega)
          obtain ⟨c, hc⟩ : ∃ c, M.coils[k]? = some c := ⟨_, List.getElem?_eq_getElem (by omega)⟩
          obtain ⟨g, hg⟩ : ∃ g, gs[k]? = some g := ⟨_, List.getElem?_eq_getElem (by omega)⟩
          have hst := steps_of hsp.1 hc
          refine ac_skip ?_
          refine aq_then ?_
          refine ac_seq ?_
          refine ac_block ?_
          refine ac_seq ?_
          refine ac_region ?_
          refine al_q (q_move rfl) rfl rfl rfl ?_
          refine al_q (q_indexAddrA (i := k) (om + k * 8 + 0) hAm rfl rfl rfl (by omega) Try.runUnderlying22 Try.sizeOf59 rfl) rfl rfl rfl ?_
          refine al_q (q_loadXs (CoilD.cells c) rfl Try.isAgg59 Try.sizeOf59 (fun w9 hs j9 v9 h9 => by rw [addr_add]; exact (hs.below.cell (p := ⟨_, _, none⟩) hltm).trans ((hgm k c hc) j9 v9 h9)) rfl) rfl rfl rfl ?_
          refine al_new (fun b => .pointer (some ⟨b, 0, none⟩)) (r_alloc Try.zeroValue59 rfl) rfl rfl rfl ?_
          intro b7
          refine al_q (q_assign rfl) rfl rfl rfl ?_
          refine al_storeAll (i := 0) rfl rfl rfl rfl Try.sizeOf59 rfl rfl .k0 rfl ?_
          refine al_end ?_
          refine aq_then ?_
          refine ac_seq ?_
          refine ac_region ?_
          refine al_q (q_fieldAddr 0 rfl Try.runUnderlying32 rfl Try.sizeOf30 (by decide) rfl) rfl rfl rfl ?_
          refine al_q (q_load (i := 5) rfl rfl rfl Try.isAgg30) rfl rfl rfl ?_
          refine al_q (q_move rfl) rfl rfl rfl ?_
          refine al_q (q_indexAddrA (i := k) (og + k * 4 + 0) hAg rfl rfl rfl (by omega) Try.runUnderlying30 Try.sizeOf62 rfl) rfl rfl rfl ?_
          refine al_q (q_loadXs (GainD.cells g) rfl Try.isAgg62 Try.sizeOf62 (fun w9 hs j9 v9 h9 => by rw [addr_add]; exact (hs.below.cell (p := ⟨_, _, none⟩) hltg).trans ((hgg k g hg) j9 v9 h9)) rfl) rfl rfl rfl ?_
          refine al_new (fun b => .pointer (some ⟨b, 0, none⟩)) (r_alloc Try.zeroValue62 rfl) rfl rfl rfl ?_
          intro b8
          refine al_storeAll (i := 0) rfl rfl rfl rfl Try.sizeOf62 rfl rfl .k0 rfl ?_
          refine al_end ?_
          refine aq_then ?_
          refine ac_draw 23 (by kernel_rfl) (by kernel_rfl) ?_
          refine ah_take 0 (fun w9 hs => hs) rfl rfl rfl (by kernel_rfl) (by kernel_rfl) (by kernel_rfl) (fun _ _ _ h => h) rfl (q_move rfl) ?_
          refine ah_take 1 (fun w9 hs => hs) rfl rfl rfl (by kernel_rfl) (by kernel_rfl) (by kernel_rfl) (fun _ _ _ h => h) rfl (q_move rfl) ?_
          refine ah_take 2 (fun w9 hs => hs) rfl rfl rfl (by kernel_rfl) (by kernel_rfl) (by kernel_rfl) (fun _ _ _ h => h) rfl (q_fieldAddr 0 rfl Try.runUnderlying62 rfl Try.sizeOf3 (by decide) rfl) ?_
          refine ah_take 3 (fun w9 hs => hs) rfl rfl rfl (by kernel_rfl) (by kernel_rfl) (by kernel_rfl) (fun _ _ _ h => h) rfl (q_load (i := 0) rfl rfl rfl Try.isAgg3) ?_
          refine ah_take 4 (fun w9 hs => hs) rfl rfl rfl (by kernel_rfl) (by kernel_rfl) (by kernel_rfl) (fun _ _ _ h => h) rfl (q_fieldAddr 1 rfl Try.runUnderlying62 rfl Try.sizeOf3 (by decide) rfl) ?_
          refine ah_take 5 (fun w9 hs => hs) rfl rfl rfl (by kernel_rfl) (by kernel_rfl) (by kernel_rfl) (fun _ _ _ h => h) rfl (q_load (i := 0) rfl rfl rfl Try.isAgg3) ?_
          refine ah_take 6 (fun w9 hs => hs) rfl rfl rfl (by kernel_rfl) (by kernel_rfl) (by kernel_rfl) (fun _ _ _ h => h) rfl (q_fieldAddr 2 rfl Try.runUnderlying62 rfl Try.sizeOf3 (by decide) rfl) ?_
          refine ah_take 7 (fun w9 hs => hs) rfl rfl rfl (by kernel_rfl) (by kernel_rfl) (by kernel_rfl) (fun _ _ _ h => h) rfl (q_load (i := 0) rfl rfl rfl Try.isAgg3) ?_
          refine ah_take 8 (fun w9 hs => hs) rfl rfl rfl (by kernel_rfl) (by kernel_rfl) (by kernel_rfl) (fun _ _ _ h => h) rfl (q_fieldAddr 3 rfl Try.runUnderlying62 rfl Try.sizeOf3 (by decide) rfl) ?_
          refine ah_take 9 (fun w9 hs => hs) rfl rfl rfl (by kernel_rfl) (by kernel_rfl) (by kernel_rfl) (fun _ _ _ h => h) rfl (q_load (i := 0) rfl rfl rfl Try.isAgg3) ?_
          refine ah_take 11 (fun w9 hs => hs) rfl rfl rfl (by kernel_rfl) (by kernel_rfl) (by kernel_rfl) (fun _ _ _ h => h) rfl (q_move rfl) ?_
          refine ah_take 12 (fun w9 hs => hs) rfl rfl rfl (by kernel_rfl) (by kernel_rfl) (by kernel_rfl) (fun _ _ _ h => h) rfl (q_move rfl) ?_
          refine ah_take 13 (fun w9 hs => hs) rfl rfl rfl (by kernel_rfl) (by kernel_rfl) (by kernel_rfl) (fun _ _ _ h => h) rfl (q_fieldAddr 0 rfl Try.runUnderlying34 rfl Try.sizeOf3 (by decide) rfl) ?_
          refine ah_take 14 (fun w9 hs => hs) rfl rfl rfl (by kernel_rfl) (by kernel_rfl) (by kernel_rfl) (fun _ _ _ h => h) rfl (q_load (i := 5) rfl rfl rfl Try.isAgg3) ?_
          refine ah_take 15 (fun w9 hs => hs) rfl rfl rfl (by kernel_rfl) (by kernel_rfl) (by kernel_rfl) (fun _ _ _ h => h) rfl (q_fieldAddr 1 rfl Try.runUnderlying34 rfl Try.sizeOf3 (by decide) rfl) ?_
          refine ah_take 16 (fun w9 hs => hs) rfl rfl rfl (by kernel_rfl) (by kernel_rfl) (by kernel_rfl) (fun _ _ _ h => h) rfl (q_load (i := 5) rfl rfl rfl Try.isAgg3) ?_
          refine ah_take 19 (fun w9 hs => hs) rfl rfl rfl (by kernel_rfl) (by kernel_rfl) (by kernel_rfl) (fun _ _ _ h => h) rfl (q_fieldAddr 5 rfl Try.runUnderlying59 rfl Try.sizeOf3 (by decide) rfl) ?_
          refine ah_take 20 (fun w9 hs => hs) rfl rfl rfl (by kernel_rfl) (by kernel_rfl) (by kernel_rfl) (fun _ _ _ h => h) rfl (q_load (i := 1) rfl rfl rfl Try.isAgg3) ?_
          refine ah_two 10 17 rfl rfl  (by kernel_rfl) (fun hok1 hcl1 => ?_) (fun hok1 hcl1 => ?_)
          · refine al_new (fun b => .slice (some ⟨b, 0, none⟩) 4 4) (r_buildSlice (.cons rfl (.cons rfl (.cons rfl (.cons rfl .nil)))) (cpw_bs_int_4_0_1_2_3 _ _ _ _ rfl rfl rfl rfl)) rfl rfl rfl ?_
            intro b9
            refine al_end (ah_back hok1 hcl1 (fun w9 hs => (hs.tail 1 rfl)) ?_)
            refine ah_one 17 rfl (by kernel_rfl) (fun hok2 hcl2 => ?_)
            refine al_new (fun b => .slice (some ⟨b, 0, none⟩) 4 4) (r_buildSlice (.cons rfl (.cons rfl (.cons rfl (.cons rfl .nil)))) (cpw_bs_int_4_0_1_2_3 _ _ _ _ rfl rfl rfl rfl)) rfl rfl rfl ?_
            intro b10
            refine al_end (ah_back hok2 hcl2 (fun w9 hs => (hs.tail 2 rfl)) ?_)
            refine ah_one 18 rfl (by kernel_rfl) (fun hok3 hcl3 => ?_)
            refine al_call Try.call24 (.cons rfl (.cons rfl .nil)) rfl rfl (fun w4 hs4 => ?_)
            refine (answer4 _ _ g.r g.z g.sr g.sz (provedL (errL gr gz s).1 (errL gr gz s).2.1) (provedL (errL gr gz s).2.2.1 (errL gr gz s).2.2.2.1) y0 y1 _ (isT_box0 (n := 1) (enc := intCells) (fun _ => rfl) (hs4.at 1 rfl) rfl rfl) (isT_box0 (n := 1) (enc := intCells) (fun _ => rfl) (hs4.at 0 rfl) rfl rfl) (strong_in hsp.2.2.1 hg) ⟨⟨provedL_in _ _, provedL_in _ _⟩, ⟨by omega, by omega⟩, by omega, by omega⟩).mono ?_
            rintro e u4 ⟨rfl, hb_4⟩
            refine ⟨_, rfl, hb_4, ?_⟩
            clear hs4
            refine al_end (ah_back hok3 hcl3 (fun w9 hs => ((hs.fewer 1 rfl).tail 2 rfl)) ?_)
            refine ah_one 21 rfl (by kernel_rfl) (fun hok4 hcl4 => ?_)
            refine al_call Try.call23 (.cons rfl (.cons rfl .nil)) rfl rfl (fun w5 hs5 => ?_)
            refine (cut_any ((g.r * (provedL (errL gr gz s).1 (errL gr gz s).2.1) + g.z * (provedL (errL gr gz s).2.2.1 (errL gr gz s).2.2.2.1) + g.sr * y0 + g.sz * y1).tdiv 1000) c.step _ (by omega) (by omega)).mono ?_
            rintro e u5 ⟨rfl, rfl⟩
            refine ⟨_, rfl, (Below.refl _ _), ?_⟩
            clear hs5
            refine al_end (ah_back hok4 hcl4 (fun w9 hs => ((hs.fewer 2 rfl).tail 2 rfl)) ?_)
            refine ah_take 22 (fun w9 hs => ((hs.fewer 2 rfl).tail 2 rfl)) rfl rfl rfl (by kernel_rfl) (by kernel_rfl) (by kernel_rfl) (fun _ _ _ h => h) rfl (q_indexAddr (i := k) (k) rfl rfl rfl (by omega) Try.runUnderlying50 Try.sizeOf3 (by omega)) ?_
            refine ah_one 23 rfl (by kernel_rfl) (fun hok5 hcl5 => ?_)
            refine al_store1 (i := 4) rfl rfl rfl rfl Try.sizeOf3 (SetAt.ofSet (by rw [inW_len (wishL M gs (provedL (errL gr gz s).1 (errL gr gz s).2.1) (provedL (errL gr gz s).2.2.1 (errL gr gz s).2.2.2.1) y0 y1) R.la k (by omega) hwl]; omega)) .k4 rfl ?_
            refine al_end (ah_last (by kernel_rfl) ?_)
            refine aq_inN ?_
            refine aq_then ?_
            refine ac_region ?_
            refine al_q (q_add rfl rfl (by omega)) rfl rfl rfl ?_
            refine al_q (q_move rfl) rfl rfl rfl ?_
            refine al_end ?_
            refine aq_then ?_
            skip
            refine aq_round (k + 1) (by omega) (by omega) ⟨rfl, rfl, rfl, rfl, rfl, rfl, rfl, rfl, rfl, rfl, trivial⟩ (fun w9 hs => (by have h9 := ((hs.fewer 2 rfl).tail 4 rfl); rw [inW_set (wishL M gs (provedL (errL gr gz s).1 (errL gr gz s).2.1) (provedL (errL gr gz s).2.2.1 (errL gr gz s).2.2.2.1) y0 y1) R.la k (cutL ((g.r * (provedL (errL gr gz s).1 (errL gr gz s).2.1) + g.z * (provedL (errL gr gz s).2.2.1 (errL gr gz s).2.2.2.1) + g.sr * y0 + g.sz * y1).tdiv 1000) c.step) (wishL_get hc hg) hwl] at h9; exact h9))
          · refine al_new (fun b => .slice (some ⟨b, 0, none⟩) 4 4) (r_buildSlice (.cons rfl (.cons rfl (.cons rfl (.cons rfl .nil)))) (cpw_bs_int_4_0_1_2_3 _ _ _ _ rfl rfl rfl rfl)) rfl rfl rfl ?_
            intro b11
            refine al_end (ah_back hok1 hcl1 (fun w9 hs => (hs.tail 1 rfl)) ?_)
            refine ah_one 10 rfl (by kernel_rfl) (fun hok6 hcl6 => ?_)
            refine al_new (fun b => .slice (some ⟨b, 0, none⟩) 4 4) (r_buildSlice (.cons rfl (.cons rfl (.cons rfl (.cons rfl .nil)))) (cpw_bs_int_4_0_1_2_3 _ _ _ _ rfl rfl rfl rfl)) rfl rfl rfl ?_
            intro b12
            refine al_end (ah_back hok6 hcl6 (fun w9 hs => (hs.tail 2 rfl)) ?_)
            refine ah_one 18 rfl (by kernel_rfl) (fun hok7 hcl7 => ?_)
            refine al_call Try.call24 (.cons rfl (.cons rfl .nil)) rfl rfl (fun w6 hs6 => ?_)
            refine (answer4 _ _ g.r g.z g.sr g.sz (provedL (errL gr gz s).1 (errL gr gz s).2.1) (provedL (errL gr gz s).2.2.1 (errL gr gz s).2.2.2.1) y0 y1 _ (isT_box0 (n := 1) (enc := intCells) (fun _ => rfl) (hs6.at 0 rfl) rfl rfl) (isT_box0 (n := 1) (enc := intCells) (fun _ => rfl) (hs6.at 1 rfl) rfl rfl) (strong_in hsp.2.2.1 hg) ⟨⟨provedL_in _ _, provedL_in _ _⟩, ⟨by omega, by omega⟩, by omega, by omega⟩).mono ?_
            rintro e u6 ⟨rfl, hb_6⟩
            refine ⟨_, rfl, hb_6, ?_⟩
            clear hs6
            refine al_end (ah_back hok7 hcl7 (fun w9 hs => ((hs.fewer 1 rfl).tail 2 rfl)) ?_)
            refine ah_one 21 rfl (by kernel_rfl) (fun hok8 hcl8 => ?_)
            refine al_call Try.call23 (.cons rfl (.cons rfl .nil)) rfl rfl (fun w7 hs7 => ?_)
            refine (cut_any ((g.r * (provedL (errL gr gz s).1 (errL gr gz s).2.1) + g.z * (provedL (errL gr gz s).2.2.1 (errL gr gz s).2.2.2.1) + g.sr * y0 + g.sz * y1).tdiv 1000) c.step _ (by omega) (by omega)).mono ?_
            rintro e u7 ⟨rfl, rfl⟩
            refine ⟨_, rfl, (Below.refl _ _), ?_⟩
            clear hs7
            refine al_end (ah_back hok8 hcl8 (fun w9 hs => ((hs.fewer 2 rfl).tail 2 rfl)) ?_)
            refine ah_take 22 (fun w9 hs => ((hs.fewer 2 rfl).tail 2 rfl)) rfl rfl rfl (by kernel_rfl) (by kernel_rfl) (by kernel_rfl) (fun _ _ _ h => h) rfl (q_indexAddr (i := k) (k) rfl rfl rfl (by omega) Try.runUnderlying50 Try.sizeOf3 (by omega)) ?_
            refine ah_one 23 rfl (by kernel_rfl) (fun hok9 hcl9 => ?_)
            refine al_store1 (i := 4) rfl rfl rfl rfl Try.sizeOf3 (SetAt.ofSet (by rw [inW_len (wishL M gs (provedL (errL gr gz s).1 (errL gr gz s).2.1) (provedL (errL gr gz s).2.2.1 (errL gr gz s).2.2.2.1) y0 y1) R.la k (by omega) hwl]; omega)) .k4 rfl ?_
            refine al_end (ah_last (by kernel_rfl) ?_)
            refine aq_inN ?_
            refine aq_then ?_
            refine ac_region ?_
            refine al_q (q_add rfl rfl (by omega)) rfl rfl rfl ?_
            refine al_q (q_move rfl) rfl rfl rfl ?_
            refine al_end ?_
            refine aq_then ?_
            skip
            refine aq_round (k + 1) (by omega) (by omega) ⟨rfl, rfl, rfl, rfl, rfl, rfl, rfl, rfl, rfl, rfl, trivial⟩ (fun w9 hs => (by have h9 := ((hs.fewer 2 rfl).tail 4 rfl); rw [inW_set (wishL M gs (provedL (errL gr gz s).1 (errL gr gz s).2.1) (provedL (errL gr gz s).2.2.1 (errL gr gz s).2.2.2.1) y0 y1) R.la k (cutL ((g.r * (provedL (errL gr gz s).1 (errL gr gz s).2.1) + g.z * (provedL (errL gr gz s).2.2.1 (errL gr gz s).2.2.2.1) + g.sr * y0 + g.sz * y1).tdiv 1000) c.step) (wishL_get hc hg) hwl] at h9; exact h9))
        · have hke : k = R.la := by have := of_decide_eq_false h3; omega
          refine ac_exit ?_
          refine aq_thenE ?_
          refine aq_thenE ?_
          refine aq_hit ?_
          refine aq_then ?_
          refine ac_seq ?_
          refine ac_region ?_
          refine al_q (q_move rfl) rfl rfl rfl ?_
          refine al_q (q_assign rfl) rfl rfl rfl ?_
          refine al_q (q_assign rfl) rfl rfl rfl ?_
          refine al_end ?_
          refine aq_then ?_
          refine ac_ret ?_
          refine ret2 Try.results10 rfl rfl (fun w9 hs => ?_)
          have he : wishE M gs most y0 y1 gr gz s = 0 := by unfold wishE; rw [if_pos hsb, if_pos hmb, hee]
          have ht : wishT M gs most y0 y1 gr gz s = (wishL M gs (provedL (errL gr gz s).1 (errL gr gz s).2.1) (provedL (errL gr gz s).2.2.1 (errL gr gz s).2.2.2.1) y0 y1) := by unfold wishT; rw [if_pos he]
          have hlt : (wishL M gs (provedL (errL gr gz s).1 (errL gr gz s).2.1) (provedL (errL gr gz s).2.2.1 (errL gr gz s).2.2.2.1) y0 y1).length = R.la := by rw [wishL_len hsp.2.1]; omega
          exact ⟨some ⟨b6, 0, none⟩, R.la, by rw [ht, he, hlt], by rw [ht, hlt]; exact ⟨isT_box0 (n := 1) (enc := intCells) (fun _ => rfl) (by have h9 := hs.at 0 rfl; rw [hke, inW_all _ _ hlt] at h9; exact h9) (flat_int _) hlt, fun b off e => hs.new 0 rfl b off e, Nat.le_refl _, by omega⟩, by rw [ht, hlt]; omega, hs.below⟩

end Go.Proofs.Ytcdhanfjcnfjjaa
end
section
/- The specification of layer 7: ValidSetup, over this seat's translation (written by mk_ctt.py). -/
namespace Go.Proofs.Ytcdhanfjcnfjjaa
set_option linter.unusedVariables false
set_option linter.unusedSimpArgs false
open Go.RowKit Go.Shelf

theorem strong_drop {gs : List GainD} {j : Nat} {x : GainD} (h : gs[j]? = some x) : (gs.drop j).any strongB = (strongB x || (gs.drop (j + 1)).any strongB) := by
  obtain ⟨k1, rfl⟩ := List.getElem?_eq_some_iff.1 h
  rw [List.drop_eq_getElem_cons k1, List.any_cons]
theorem four_drop {l : List Int} {j : Nat} {x : Int} (h : l[j]? = some x) : (l.drop j).any (fun n => !wthn n (-1000000) 1000000) = (!wthn x (-1000000) 1000000 || (l.drop (j + 1)).any (fun n => !wthn n (-1000000) 1000000)) := by
  obtain ⟨k1, rfl⟩ := List.getElem?_eq_some_iff.1 h
  rw [List.drop_eq_getElem_cons k1, List.any_cons]

set_option maxRecDepth 100000 in
set_option maxHeartbeats 8000000 in
theorem rsetup_any (R : MachR) (M : MachD) (G : Option Addr) (ng cg : Nat) (gs : List GainD) (most : Int) (w : World) (hM : IsM w R M) (hG : IsT 4 GainD.cells w G ng gs) (hn : ng ≤ 1000000000000000) :
    Calls Try.prog 31 #[.agg (machCells R M), .agg #[.slice G ng cg, .int .i64 most]] w (Ret (.bool (setupB M gs most)) w) := by
  have HC0 := Lib.hid (fun W (hb : Below w.heap.size w W) => rcheck_any R M W (hM.below hb))
  have HS : Hid ((decide (checkC M = 0) && (decide (ng = R.la) && (!(gs.any strongB) && wthn most 0 1000000000))) = setupB M gs most) := Lib.hid (by unfold setupB; rw [hG.1, hM.coils.1])
  have HG0 : Hid ((gs.drop 0).any strongB = gs.any strongB) := Lib.hid rfl
  have hgl := hG.1
  have IG := Lib.hid hG
  clear hM hG
  generalize setupB M gs most = K at *
  generalize checkC M = c at *
  generalize gs.any strongB = q at *
  obtain ⟨A, B, Cl, D, la, ca, lb, cb, lc, cl, ld, cd⟩ := R
  obtain ⟨name, coils, shells, limits, ⟨r, z, nr, nz, step⟩, sensors⟩ := M
  dsimp only at *
  have HC := Lib.hid (show ∀ W, Below w.heap.size w W → Calls Try.prog 48 #[.agg #[.string name, .slice A la ca, .slice B lb cb, .slice Cl lc cl, .int .i64 r, .int .i64 z, .int .i64 nr, .int .i64 nz, .int .i64 step, .slice D ld cd]] W (Ret (.int .i64 c) W) from HC0.out)
  clear HC0
  show Calls Try.prog 31 #[.agg #[.string name, .slice A la ca, .slice B lb cb, .slice Cl lc cl, .int .i64 r, .int .i64 z, .int .i64 nr, .int .i64 nz, .int .i64 step, .slice D ld cd], .agg #[.slice G ng cg, .int .i64 most]] w _
  by_cases hc : c = 0
  rotate_left
  · rw [decide_eq_false hc] at HS
    have d0 : (c != 0) = true := by rw [bne_iff_ne]; exact hc
    clear hc
    go_enter Try.func31, Try.ntmps31
    go_upto_region 1 with (fail)
    have Fm : Hid (RowL (w.heap.size) [.string name, .slice A la ca, .slice B lb cb, .slice Cl lc cl, .int .i64 r, .int .i64 z, .int .i64 nr, .int .i64 nz, .int .i64 step, .slice D ld cd] ((w.alloc (.cells #[.string name, .slice A la ca, .slice B lb cb, .slice Cl lc cl, .int .i64 r, .int .i64 z, .int .i64 nr, .int .i64 nz, .int .i64 step, .slice D ld cd] 29)).alloc (.cells #[.slice G ng cg, .int .i64 most] 32))) := Lib.hid (by have h := RowL.new w #[.string name, .slice A la ca, .slice B lb cb, .slice Cl lc cl, .int .i64 r, .int .i64 z, .int .i64 nr, .int .i64 nz, .int .i64 step, .slice D ld cd] 29; (try simp only [World.size_alloc] at h); exact (h.alloc _))
    have Fx : Hid (RowL (w.heap.size + 1) [.slice G ng cg, .int .i64 most] ((w.alloc (.cells #[.string name, .slice A la ca, .slice B lb cb, .slice Cl lc cl, .int .i64 r, .int .i64 z, .int .i64 nr, .int .i64 nz, .int .i64 step, .slice D ld cd] 29)).alloc (.cells #[.slice G ng cg, .int .i64 most] 32))) := Lib.hid (by have h := RowL.new (w.alloc (.cells #[.string name, .slice A la ca, .slice B lb cb, .slice Cl lc cl, .int .i64 r, .int .i64 z, .int .i64 nr, .int .i64 nz, .int .i64 step, .slice D ld cd] 29)) #[.slice G ng cg, .int .i64 most] 32; (try simp only [World.size_alloc] at h); exact h)
    have hB0 : Below w.heap.size w ((w.alloc (.cells #[.string name, .slice A la ca, .slice B lb cb, .slice Cl lc cl, .int .i64 r, .int .i64 z, .int .i64 nr, .int .i64 nz, .int .i64 step, .slice D ld cd] 29)).alloc (.cells #[.slice G ng cg, .int .i64 most] 32)) := by (with_reducible repeat first | exact Below.refl _ _ | assumption | ((first | refine Below.setCell ?_ ?_ _ | refine Below.alloc ?_ ?_ _); rotate_left; exact (by first | omega | (simp; done) | (simp; omega))) | refine Below.drew ?_ | refine Below_drewN ?_ _)
    have sW0 : w.heap.size + 1 < ((w.alloc (.cells #[.string name, .slice A la ca, .slice B lb cb, .slice Cl lc cl, .int .i64 r, .int .i64 z, .int .i64 nr, .int .i64 nz, .int .i64 step, .slice D ld cd] 29)).alloc (.cells #[.slice G ng cg, .int .i64 most] 32)).heap.size := by simp only [World.size_alloc]; omega
    obtain ⟨W0, hW0⟩ : ∃ W, ((w.alloc (.cells #[.string name, .slice A la ca, .slice B lb cb, .slice Cl lc cl, .int .i64 r, .int .i64 z, .int .i64 nr, .int .i64 nz, .int .i64 step, .slice D ld cd] 29)).alloc (.cells #[.slice G ng cg, .int .i64 most] 32)) = W := ⟨_, rfl⟩
    rw [hW0] at Fm Fx hB0 sW0 ⊢
    clear hW0
    have m0 := Fm.out.cell 0 (.string name) rfl
    have m1 := Fm.out.cell 1 (.slice A la ca) rfl
    have m2 := Fm.out.cell 2 (.slice B lb cb) rfl
    have m3 := Fm.out.cell 3 (.slice Cl lc cl) rfl
    have m4 := Fm.out.cell 4 (.int .i64 r) rfl
    have m5 := Fm.out.cell 5 (.int .i64 z) rfl
    have m6 := Fm.out.cell 6 (.int .i64 nr) rfl
    have m7 := Fm.out.cell 7 (.int .i64 nz) rfl
    have m8 := Fm.out.cell 8 (.int .i64 step) rfl
    have m9 := Fm.out.cell 9 (.slice D ld cd) rfl
    have x0 := Fx.out.cell 0 (.slice G ng cg) rfl
    have x1 := Fx.out.cell 1 (.int .i64 most) rfl
    go_wp2_with fail
    refine (HC.out _ hB0).mono ?_
    rintro e w1 ⟨rfl, hb⟩
    clear m0 m1 m2 m3 m4 m5 m6 m7 m8 m9 x0 x1
    have Gm := Lib.hid (Fm.out.below hb)
    clear Fm
    have Fm := Lib.hid Gm.out
    clear Gm
    have Gx := Lib.hid (Fx.out.below hb)
    clear Fx
    have Fx := Lib.hid Gx.out
    clear Gx
    have m0 := Fm.out.cell 0 (.string name) rfl
    have m1 := Fm.out.cell 1 (.slice A la ca) rfl
    have m2 := Fm.out.cell 2 (.slice B lb cb) rfl
    have m3 := Fm.out.cell 3 (.slice Cl lc cl) rfl
    have m4 := Fm.out.cell 4 (.int .i64 r) rfl
    have m5 := Fm.out.cell 5 (.int .i64 z) rfl
    have m6 := Fm.out.cell 6 (.int .i64 nr) rfl
    have m7 := Fm.out.cell 7 (.int .i64 nz) rfl
    have m8 := Fm.out.cell 8 (.int .i64 step) rfl
    have m9 := Fm.out.cell 9 (.slice D ld cd) rfl
    have x0 := Fx.out.cell 0 (.slice G ng cg) rfl
    have x1 := Fx.out.cell 1 (.int .i64 most) rfl
    have hBw1 := hB0.trans (hb.mono hB0.size)
    clear hb
    go_wp2_with fail
    go_ret
    exact ⟨by rw [← HS.out]; simp, by (with_reducible repeat first | exact Below.refl _ _ | assumption | ((first | refine Below.setCell ?_ ?_ _ | refine Below.alloc ?_ ?_ _); rotate_left; exact (by first | omega | (simp; done) | (simp; omega))) | refine Below.drew ?_ | refine Below_drewN ?_ _)⟩
  subst hc
  rw [decide_eq_true (rfl : (0 : Int) = 0)] at HS
  by_cases hl : ng = la
  rotate_left
  · rw [decide_eq_false hl] at HS
    have e0 := (int_eq ng la).trans (decide_eq_false hl)
    have e1 : ((ng : Int) != (la : Int)) = true := by rw [bne, e0]; rfl
    clear hl e0
    go_enter Try.func31, Try.ntmps31
    go_upto_region 1 with (fail)
    have Fm : Hid (RowL (w.heap.size) [.string name, .slice A la ca, .slice B lb cb, .slice Cl lc cl, .int .i64 r, .int .i64 z, .int .i64 nr, .int .i64 nz, .int .i64 step, .slice D ld cd] ((w.alloc (.cells #[.string name, .slice A la ca, .slice B lb cb, .slice Cl lc cl, .int .i64 r, .int .i64 z, .int .i64 nr, .int .i64 nz, .int .i64 step, .slice D ld cd] 29)).alloc (.cells #[.slice G ng cg, .int .i64 most] 32))) := Lib.hid (by have h := RowL.new w #[.string name, .slice A la ca, .slice B lb cb, .slice Cl lc cl, .int .i64 r, .int .i64 z, .int .i64 nr, .int .i64 nz, .int .i64 step, .slice D ld cd] 29; (try simp only [World.size_alloc] at h); exact (h.alloc _))
    have Fx : Hid (RowL (w.heap.size + 1) [.slice G ng cg, .int .i64 most] ((w.alloc (.cells #[.string name, .slice A la ca, .slice B lb cb, .slice Cl lc cl, .int .i64 r, .int .i64 z, .int .i64 nr, .int .i64 nz, .int .i64 step, .slice D ld cd] 29)).alloc (.cells #[.slice G ng cg, .int .i64 most] 32))) := Lib.hid (by have h := RowL.new (w.alloc (.cells #[.string name, .slice A la ca, .slice B lb cb, .slice Cl lc cl, .int .i64 r, .int .i64 z, .int .i64 nr, .int .i64 nz, .int .i64 step, .slice D ld cd] 29)) #[.slice G ng cg, .int .i64 most] 32; (try simp only [World.size_alloc] at h); exact h)
    have hB0 : Below w.heap.size w ((w.alloc (.cells #[.string name, .slice A la ca, .slice B lb cb, .slice Cl lc cl, .int .i64 r, .int .i64 z, .int .i64 nr, .int .i64 nz, .int .i64 step, .slice D ld cd] 29)).alloc (.cells #[.slice G ng cg, .int .i64 most] 32)) := by (with_reducible repeat first | exact Below.refl _ _ | assumption | ((first | refine Below.setCell ?_ ?_ _ | refine Below.alloc ?_ ?_ _); rotate_left; exact (by first | omega | (simp; done) | (simp; omega))) | refine Below.drew ?_ | refine Below_drewN ?_ _)
    have sW0 : w.heap.size + 1 < ((w.alloc (.cells #[.string name, .slice A la ca, .slice B lb cb, .slice Cl lc cl, .int .i64 r, .int .i64 z, .int .i64 nr, .int .i64 nz, .int .i64 step, .slice D ld cd] 29)).alloc (.cells #[.slice G ng cg, .int .i64 most] 32)).heap.size := by simp only [World.size_alloc]; omega
    obtain ⟨W0, hW0⟩ : ∃ W, ((w.alloc (.cells #[.string name, .slice A la ca, .slice B lb cb, .slice Cl lc cl, .int .i64 r, .int .i64 z, .int .i64 nr, .int .i64 nz, .int .i64 step, .slice D ld cd] 29)).alloc (.cells #[.slice G ng cg, .int .i64 most] 32)) = W := ⟨_, rfl⟩
    rw [hW0] at Fm Fx hB0 sW0 ⊢
    clear hW0
    have m0 := Fm.out.cell 0 (.string name) rfl
    have m1 := Fm.out.cell 1 (.slice A la ca) rfl
    have m2 := Fm.out.cell 2 (.slice B lb cb) rfl
    have m3 := Fm.out.cell 3 (.slice Cl lc cl) rfl
    have m4 := Fm.out.cell 4 (.int .i64 r) rfl
    have m5 := Fm.out.cell 5 (.int .i64 z) rfl
    have m6 := Fm.out.cell 6 (.int .i64 nr) rfl
    have m7 := Fm.out.cell 7 (.int .i64 nz) rfl
    have m8 := Fm.out.cell 8 (.int .i64 step) rfl
    have m9 := Fm.out.cell 9 (.slice D ld cd) rfl
    have x0 := Fx.out.cell 0 (.slice G ng cg) rfl
    have x1 := Fx.out.cell 1 (.int .i64 most) rfl
    go_wp2_with fail
    refine (HC.out _ hB0).mono ?_
    rintro e w1 ⟨rfl, hb⟩
    clear m0 m1 m2 m3 m4 m5 m6 m7 m8 m9 x0 x1
    have Gm := Lib.hid (Fm.out.below hb)
    clear Fm
    have Fm := Lib.hid Gm.out
    clear Gm
    have Gx := Lib.hid (Fx.out.below hb)
    clear Fx
    have Fx := Lib.hid Gx.out
    clear Gx
    have m0 := Fm.out.cell 0 (.string name) rfl
    have m1 := Fm.out.cell 1 (.slice A la ca) rfl
    have m2 := Fm.out.cell 2 (.slice B lb cb) rfl
    have m3 := Fm.out.cell 3 (.slice Cl lc cl) rfl
    have m4 := Fm.out.cell 4 (.int .i64 r) rfl
    have m5 := Fm.out.cell 5 (.int .i64 z) rfl
    have m6 := Fm.out.cell 6 (.int .i64 nr) rfl
    have m7 := Fm.out.cell 7 (.int .i64 nz) rfl
    have m8 := Fm.out.cell 8 (.int .i64 step) rfl
    have m9 := Fm.out.cell 9 (.slice D ld cd) rfl
    have x0 := Fx.out.cell 0 (.slice G ng cg) rfl
    have x1 := Fx.out.cell 1 (.int .i64 most) rfl
    have hBw1 := hB0.trans (hb.mono hB0.size)
    clear hb
    go_wp2_with fail
    go_ret
    exact ⟨by rw [← HS.out]; simp, by (with_reducible repeat first | exact Below.refl _ _ | assumption | ((first | refine Below.setCell ?_ ?_ _ | refine Below.alloc ?_ ?_ _); rotate_left; exact (by first | omega | (simp; done) | (simp; omega))) | refine Below.drew ?_ | refine Below_drewN ?_ _)⟩
  subst hl
  rw [decide_eq_true rfl] at HS
  have e1 : ((ng : Int) != (ng : Int)) = false := by simp
  cases hw : wthn most 0 1000000000
  · rw [hw] at HS
    go_enter Try.func31, Try.ntmps31
    go_upto_region 1 with (fail)
    have Fm : Hid (RowL (w.heap.size) [.string name, .slice A ng ca, .slice B lb cb, .slice Cl lc cl, .int .i64 r, .int .i64 z, .int .i64 nr, .int .i64 nz, .int .i64 step, .slice D ld cd] ((w.alloc (.cells #[.string name, .slice A ng ca, .slice B lb cb, .slice Cl lc cl, .int .i64 r, .int .i64 z, .int .i64 nr, .int .i64 nz, .int .i64 step, .slice D ld cd] 29)).alloc (.cells #[.slice G ng cg, .int .i64 most] 32))) := Lib.hid (by have h := RowL.new w #[.string name, .slice A ng ca, .slice B lb cb, .slice Cl lc cl, .int .i64 r, .int .i64 z, .int .i64 nr, .int .i64 nz, .int .i64 step, .slice D ld cd] 29; (try simp only [World.size_alloc] at h); exact (h.alloc _))
    have Fx : Hid (RowL (w.heap.size + 1) [.slice G ng cg, .int .i64 most] ((w.alloc (.cells #[.string name, .slice A ng ca, .slice B lb cb, .slice Cl lc cl, .int .i64 r, .int .i64 z, .int .i64 nr, .int .i64 nz, .int .i64 step, .slice D ld cd] 29)).alloc (.cells #[.slice G ng cg, .int .i64 most] 32))) := Lib.hid (by have h := RowL.new (w.alloc (.cells #[.string name, .slice A ng ca, .slice B lb cb, .slice Cl lc cl, .int .i64 r, .int .i64 z, .int .i64 nr, .int .i64 nz, .int .i64 step, .slice D ld cd] 29)) #[.slice G ng cg, .int .i64 most] 32; (try simp only [World.size_alloc] at h); exact h)
    have hB0 : Below w.heap.size w ((w.alloc (.cells #[.string name, .slice A ng ca, .slice B lb cb, .slice Cl lc cl, .int .i64 r, .int .i64 z, .int .i64 nr, .int .i64 nz, .int .i64 step, .slice D ld cd] 29)).alloc (.cells #[.slice G ng cg, .int .i64 most] 32)) := by (with_reducible repeat first | exact Below.refl _ _ | assumption | ((first | refine Below.setCell ?_ ?_ _ | refine Below.alloc ?_ ?_ _); rotate_left; exact (by first | omega | (simp; done) | (simp; omega))) | refine Below.drew ?_ | refine Below_drewN ?_ _)
    have sW0 : w.heap.size + 1 < ((w.alloc (.cells #[.string name, .slice A ng ca, .slice B lb cb, .slice Cl lc cl, .int .i64 r, .int .i64 z, .int .i64 nr, .int .i64 nz, .int .i64 step, .slice D ld cd] 29)).alloc (.cells #[.slice G ng cg, .int .i64 most] 32)).heap.size := by simp only [World.size_alloc]; omega
    obtain ⟨W0, hW0⟩ : ∃ W, ((w.alloc (.cells #[.string name, .slice A ng ca, .slice B lb cb, .slice Cl lc cl, .int .i64 r, .int .i64 z, .int .i64 nr, .int .i64 nz, .int .i64 step, .slice D ld cd] 29)).alloc (.cells #[.slice G ng cg, .int .i64 most] 32)) = W := ⟨_, rfl⟩
    rw [hW0] at Fm Fx hB0 sW0 ⊢
    clear hW0
    have m0 := Fm.out.cell 0 (.string name) rfl
    have m1 := Fm.out.cell 1 (.slice A ng ca) rfl
    have m2 := Fm.out.cell 2 (.slice B lb cb) rfl
    have m3 := Fm.out.cell 3 (.slice Cl lc cl) rfl
    have m4 := Fm.out.cell 4 (.int .i64 r) rfl
    have m5 := Fm.out.cell 5 (.int .i64 z) rfl
    have m6 := Fm.out.cell 6 (.int .i64 nr) rfl
    have m7 := Fm.out.cell 7 (.int .i64 nz) rfl
    have m8 := Fm.out.cell 8 (.int .i64 step) rfl
    have m9 := Fm.out.cell 9 (.slice D ld cd) rfl
    have x0 := Fx.out.cell 0 (.slice G ng cg) rfl
    have x1 := Fx.out.cell 1 (.int .i64 most) rfl
    go_wp2_with fail
    refine (HC.out _ hB0).mono ?_
    rintro e w1 ⟨rfl, hb⟩
    clear m0 m1 m2 m3 m4 m5 m6 m7 m8 m9 x0 x1
    have Gm := Lib.hid (Fm.out.below hb)
    clear Fm
    have Fm := Lib.hid Gm.out
    clear Gm
    have Gx := Lib.hid (Fx.out.below hb)
    clear Fx
    have Fx := Lib.hid Gx.out
    clear Gx
    have m0 := Fm.out.cell 0 (.string name) rfl
    have m1 := Fm.out.cell 1 (.slice A ng ca) rfl
    have m2 := Fm.out.cell 2 (.slice B lb cb) rfl
    have m3 := Fm.out.cell 3 (.slice Cl lc cl) rfl
    have m4 := Fm.out.cell 4 (.int .i64 r) rfl
    have m5 := Fm.out.cell 5 (.int .i64 z) rfl
    have m6 := Fm.out.cell 6 (.int .i64 nr) rfl
    have m7 := Fm.out.cell 7 (.int .i64 nz) rfl
    have m8 := Fm.out.cell 8 (.int .i64 step) rfl
    have m9 := Fm.out.cell 9 (.slice D ld cd) rfl
    have x0 := Fx.out.cell 0 (.slice G ng cg) rfl
    have x1 := Fx.out.cell 1 (.int .i64 most) rfl
    have hBw1 := hB0.trans (hb.mono hB0.size)
    clear hb
    go_wp2_with (go_at_call 29; refine (rwithin7_any _ _ _ _).mono ?_; rintro e w9 ⟨rfl, rfl⟩; rw [hw])
    go_ret
    exact ⟨by rw [← HS.out]; simp, by (with_reducible repeat first | exact Below.refl _ _ | assumption | ((first | refine Below.setCell ?_ ?_ _ | refine Below.alloc ?_ ?_ _); rotate_left; exact (by first | omega | (simp; done) | (simp; omega))) | refine Below.drew ?_ | refine Below_drewN ?_ _)⟩
  rw [hw] at HS
  have HE : Hid ((!q) = K) := Lib.hid (by rw [← HS.out]; simp)
  clear HS
  go_enter Try.func31, Try.ntmps31
  go_upto_region 1 with (fail)
  have Fm : Hid (RowL (w.heap.size) [.string name, .slice A ng ca, .slice B lb cb, .slice Cl lc cl, .int .i64 r, .int .i64 z, .int .i64 nr, .int .i64 nz, .int .i64 step, .slice D ld cd] ((w.alloc (.cells #[.string name, .slice A ng ca, .slice B lb cb, .slice Cl lc cl, .int .i64 r, .int .i64 z, .int .i64 nr, .int .i64 nz, .int .i64 step, .slice D ld cd] 29)).alloc (.cells #[.slice G ng cg, .int .i64 most] 32))) := Lib.hid (by have h := RowL.new w #[.string name, .slice A ng ca, .slice B lb cb, .slice Cl lc cl, .int .i64 r, .int .i64 z, .int .i64 nr, .int .i64 nz, .int .i64 step, .slice D ld cd] 29; (try simp only [World.size_alloc] at h); exact (h.alloc _))
  have Fx : Hid (RowL (w.heap.size + 1) [.slice G ng cg, .int .i64 most] ((w.alloc (.cells #[.string name, .slice A ng ca, .slice B lb cb, .slice Cl lc cl, .int .i64 r, .int .i64 z, .int .i64 nr, .int .i64 nz, .int .i64 step, .slice D ld cd] 29)).alloc (.cells #[.slice G ng cg, .int .i64 most] 32))) := Lib.hid (by have h := RowL.new (w.alloc (.cells #[.string name, .slice A ng ca, .slice B lb cb, .slice Cl lc cl, .int .i64 r, .int .i64 z, .int .i64 nr, .int .i64 nz, .int .i64 step, .slice D ld cd] 29)) #[.slice G ng cg, .int .i64 most] 32; (try simp only [World.size_alloc] at h); exact h)
  have hB0 : Below w.heap.size w ((w.alloc (.cells #[.string name, .slice A ng ca, .slice B lb cb, .slice Cl lc cl, .int .i64 r, .int .i64 z, .int .i64 nr, .int .i64 nz, .int .i64 step, .slice D ld cd] 29)).alloc (.cells #[.slice G ng cg, .int .i64 most] 32)) := by (with_reducible repeat first | exact Below.refl _ _ | assumption | ((first | refine Below.setCell ?_ ?_ _ | refine Below.alloc ?_ ?_ _); rotate_left; exact (by first | omega | (simp; done) | (simp; omega))) | refine Below.drew ?_ | refine Below_drewN ?_ _)
  have sW0 : w.heap.size + 1 < ((w.alloc (.cells #[.string name, .slice A ng ca, .slice B lb cb, .slice Cl lc cl, .int .i64 r, .int .i64 z, .int .i64 nr, .int .i64 nz, .int .i64 step, .slice D ld cd] 29)).alloc (.cells #[.slice G ng cg, .int .i64 most] 32)).heap.size := by simp only [World.size_alloc]; omega
  obtain ⟨W0, hW0⟩ : ∃ W, ((w.alloc (.cells #[.string name, .slice A ng ca, .slice B lb cb, .slice Cl lc cl, .int .i64 r, .int .i64 z, .int .i64 nr, .int .i64 nz, .int .i64 step, .slice D ld cd] 29)).alloc (.cells #[.slice G ng cg, .int .i64 most] 32)) = W := ⟨_, rfl⟩
  rw [hW0] at Fm Fx hB0 sW0 ⊢
  clear hW0
  have m0 := Fm.out.cell 0 (.string name) rfl
  have m1 := Fm.out.cell 1 (.slice A ng ca) rfl
  have m2 := Fm.out.cell 2 (.slice B lb cb) rfl
  have m3 := Fm.out.cell 3 (.slice Cl lc cl) rfl
  have m4 := Fm.out.cell 4 (.int .i64 r) rfl
  have m5 := Fm.out.cell 5 (.int .i64 z) rfl
  have m6 := Fm.out.cell 6 (.int .i64 nr) rfl
  have m7 := Fm.out.cell 7 (.int .i64 nz) rfl
  have m8 := Fm.out.cell 8 (.int .i64 step) rfl
  have m9 := Fm.out.cell 9 (.slice D ld cd) rfl
  have x0 := Fx.out.cell 0 (.slice G ng cg) rfl
  have x1 := Fx.out.cell 1 (.int .i64 most) rfl
  go_wp2_with fail
  refine (HC.out _ hB0).mono ?_
  rintro e w1 ⟨rfl, hb⟩
  clear m0 m1 m2 m3 m4 m5 m6 m7 m8 m9 x0 x1
  have Gm := Lib.hid (Fm.out.below hb)
  clear Fm
  have Fm := Lib.hid Gm.out
  clear Gm
  have Gx := Lib.hid (Fx.out.below hb)
  clear Fx
  have Fx := Lib.hid Gx.out
  clear Gx
  have m0 := Fm.out.cell 0 (.string name) rfl
  have m1 := Fm.out.cell 1 (.slice A ng ca) rfl
  have m2 := Fm.out.cell 2 (.slice B lb cb) rfl
  have m3 := Fm.out.cell 3 (.slice Cl lc cl) rfl
  have m4 := Fm.out.cell 4 (.int .i64 r) rfl
  have m5 := Fm.out.cell 5 (.int .i64 z) rfl
  have m6 := Fm.out.cell 6 (.int .i64 nr) rfl
  have m7 := Fm.out.cell 7 (.int .i64 nz) rfl
  have m8 := Fm.out.cell 8 (.int .i64 step) rfl
  have m9 := Fm.out.cell 9 (.slice D ld cd) rfl
  have x0 := Fx.out.cell 0 (.slice G ng cg) rfl
  have x1 := Fx.out.cell 1 (.int .i64 most) rfl
  have hBw1 := hB0.trans (hb.mono hB0.size)
  clear hb
  go_wp2_with (go_at_call 29; refine (rwithin7_any _ _ _ _).mono ?_; rintro e w9 ⟨rfl, rfl⟩; rw [hw])
  clear HC Fm m0 m1 m2 m3 m4 m5 m6 m7 m8 m9 x0 x1
  have s1 := hBw1.size
  go_loopw [5, 6, 7, 8] (fun i _ _ _ wr => ∃ j : Nat, j ≤ ng ∧ i = .int .i64 j ∧ Hid ((gs.drop j).any strongB = q) ∧ Below w1.heap.size w1 wr ∧ Hid (RowL (w.heap.size + 1) [.slice G ng cg, .int .i64 most] wr)) (fun i _ _ _ _ => ng - (intOf i).toNat)
  case atStart => exact ⟨0, Nat.zero_le _, rfl, HG0, Below.refl _ _, Fx⟩
  case round =>
    obtain ⟨j, hj, rfl, hq, hB, Fx⟩ := hrel
    have sz := hB.size
    have x0 := Fx.out.cell 0 _ rfl
    have xlt := Fx.out.lt
    by_cases hlt : j < ng
    · obtain ⟨z1, hcl⟩ := IG.out.below (hBw1.trans (hB.mono hBw1.size))
      obtain ⟨bg, og, rfl, hbg, hcl⟩ := hcl (by omega)
      obtain ⟨v, hv⟩ : ∃ x, gs[j]? = some x := ⟨_, List.getElem?_eq_getElem (by omega)⟩
      have HD := Lib.hid (strong_drop hv)
      obtain ⟨h0, h1, h2, h3⟩ := v
      have e2 : wr.cell? ⟨bg, og + j * 4, none⟩ = some (.int .i64 h0) := by have h := hcl j _ hv 0 _ rfl; simpa using h
      have e3 : wr.cell? ⟨bg, og + j * 4 + 1, none⟩ = some (.int .i64 h1) := by have h := hcl j _ hv 1 _ rfl; simpa using h
      have e4 : wr.cell? ⟨bg, og + j * 4 + 2, none⟩ = some (.int .i64 h2) := by have h := hcl j _ hv 2 _ rfl; simpa using h
      have e5 : wr.cell? ⟨bg, og + j * 4 + 3, none⟩ = some (.int .i64 h3) := by have h := hcl j _ hv 3 _ rfl; simpa using h
      have jn : ((j : Int)).toNat = j := by omega
      have j0 : (0 : Int) ≤ j := by omega
      have HQ4 : Hid (strongB ⟨h0, h1, h2, h3⟩ = [h0, h1, h2, h3].any (fun n => !wthn n (-1000000) 1000000)) := Lib.hid rfl
      generalize strongB ⟨h0, h1, h2, h3⟩ = q4 at *
      clear hcl hv z1
      go_upto_region 7 with (fail)
      have Fg : Hid (RowL (wr.heap.size) [.int .i64 h0, .int .i64 h1, .int .i64 h2, .int .i64 h3] (wr.alloc (.cells #[.int .i64 h0, .int .i64 h1, .int .i64 h2, .int .i64 h3] 62))) := Lib.hid (by have h := RowL.new wr #[.int .i64 h0, .int .i64 h1, .int .i64 h2, .int .i64 h3] 62; (try simp only [World.size_alloc] at h); exact h)
      have hb2 : Below wr.heap.size wr (wr.alloc (.cells #[.int .i64 h0, .int .i64 h1, .int .i64 h2, .int .i64 h3] 62)) := by (with_reducible repeat first | exact Below.refl _ _ | assumption | ((first | refine Below.setCell ?_ ?_ _ | refine Below.alloc ?_ ?_ _); rotate_left; exact (by first | omega | (simp; done) | (simp; omega))) | refine Below.drew ?_ | refine Below_drewN ?_ _)
      have sW2 : wr.heap.size < (wr.alloc (.cells #[.int .i64 h0, .int .i64 h1, .int .i64 h2, .int .i64 h3] 62)).heap.size := by simp only [World.size_alloc]; omega
      obtain ⟨W2, hW2⟩ : ∃ W, (wr.alloc (.cells #[.int .i64 h0, .int .i64 h1, .int .i64 h2, .int .i64 h3] 62)) = W := ⟨_, rfl⟩
      rw [hW2] at Fg hb2 sW2 ⊢
      clear hW2
      have g0 := Fg.out.cell 0 (.int .i64 h0) rfl
      have g1 := Fg.out.cell 1 (.int .i64 h1) rfl
      have g2 := Fg.out.cell 2 (.int .i64 h2) rfl
      have g3 := Fg.out.cell 3 (.int .i64 h3) rfl
      have FX2 := Lib.hid (Fx.out.below hb2)
      clear Fx x0 e2 e3 e4 e5
      go_upto_region 8 with (fail)
      have Fl : Hid (RowL (W2.heap.size) [.int .i64 h0, .int .i64 h1, .int .i64 h2, .int .i64 h3] (W2.alloc (.cells #[.int .i64 h0, .int .i64 h1, .int .i64 h2, .int .i64 h3] 3))) := Lib.hid (by have h := RowL.new W2 #[.int .i64 h0, .int .i64 h1, .int .i64 h2, .int .i64 h3] 3; (try simp only [World.size_alloc] at h); exact h)
      have hb3 : Below W2.heap.size W2 (W2.alloc (.cells #[.int .i64 h0, .int .i64 h1, .int .i64 h2, .int .i64 h3] 3)) := by (with_reducible repeat first | exact Below.refl _ _ | assumption | ((first | refine Below.setCell ?_ ?_ _ | refine Below.alloc ?_ ?_ _); rotate_left; exact (by first | omega | (simp; done) | (simp; omega))) | refine Below.drew ?_ | refine Below_drewN ?_ _)
      have sW3 : W2.heap.size < (W2.alloc (.cells #[.int .i64 h0, .int .i64 h1, .int .i64 h2, .int .i64 h3] 3)).heap.size := by simp only [World.size_alloc]; omega
      obtain ⟨W3, hW3⟩ : ∃ W, (W2.alloc (.cells #[.int .i64 h0, .int .i64 h1, .int .i64 h2, .int .i64 h3] 3)) = W := ⟨_, rfl⟩
      rw [hW3] at Fl hb3 sW3 ⊢
      clear hW3
      have FX3 := Lib.hid (FX2.out.below hb3)
      clear FX2 g0 g1 g2 g3 Fg
      have hb23 := hB.trans ((hb2.trans (hb3.mono hb2.size)).mono sz)
      have IL : Hid (IsT 1 intCells W3 (some ⟨W2.heap.size, 0, none⟩) 4 [h0, h1, h2, h3]) := Lib.hid (Fl.out.isI rfl)
      clear Fl
      have szw3 := hb23.size
      go_wp2_with fail
      go_loopw [8] (fun k wx => ∃ t : Nat, t ≤ 4 ∧ k = .int .i64 t ∧ Hid (([h0, h1, h2, h3].drop t).any (fun n => !wthn n (-1000000) 1000000) = q4) ∧ Below W3.heap.size W3 wx) (fun k _ => 4 - (intOf k).toNat)
      case atStart => exact ⟨0, by omega, rfl, Lib.hid HQ4.out.symm, Below.refl _ _⟩
      case round =>
        obtain ⟨t, ht, rfl, hQ, hBx⟩ := hrel
        have szx := hBx.size
        by_cases htj : t < 4
        · obtain ⟨z2, hcl2⟩ := IL.out.below hBx
          obtain ⟨b', o', hbo, hb', hcl2⟩ := hcl2 (by omega)
          have hbo := Option.some.inj hbo
          simp only [Addr.mk.injEq] at hbo
          obtain ⟨rfl, rfl, -⟩ := hbo
          obtain ⟨y, hy⟩ : ∃ x, [h0, h1, h2, h3][t]? = some x := ⟨_, List.getElem?_eq_getElem (by simp; omega)⟩
          have HF := Lib.hid (hQ.out.symm.trans (four_drop hy))
          have y0 : wr.cell? ⟨W2.heap.size, 0 + t, none⟩ = some (.int .i64 y) := by have h := hcl2 t y hy 0 _ rfl; simpa using h
          rw [Nat.zero_add] at y0
          have tn : ((t : Int)).toNat = t := by omega
          have t0 : (0 : Int) ≤ t := by omega
          clear hcl2 hy z2 hQ
          cases hp : wthn y (-1000000) 1000000
          · have HN : Hid (false = K) := Lib.hid (by rw [← HE.out, ← hq.out, HD.out, HF.out, hp]; rfl)
            clear HF HD
            go_wp2_with (go_at_call 29; refine (rwithin7_any _ _ _ _).mono ?_; rintro e w9 ⟨rfl, rfl⟩; rw [hp])
            go_ret
            exact ⟨by rw [← HN.out]; rfl, hBw1.trans ((hb23.trans (hBx.mono szw3)).mono hBw1.size)⟩
          · have HN : Hid (([h0, h1, h2, h3].drop (t + 1)).any (fun n => !wthn n (-1000000) 1000000) = q4) := Lib.hid (by rw [HF.out, hp]; rfl)
            clear HF HD
            go_wp2_with (go_at_call 29; refine (rwithin7_any _ _ _ _).mono ?_; rintro e w9 ⟨rfl, rfl⟩; rw [hp])
            go_roundw
            case rel => exact ⟨t + 1, by omega, by go_num, HN, hBx⟩
            case measure => simp [intOf]; omega
        · have HN : Hid ((gs.drop (j + 1)).any strongB = q) := Lib.hid (by
            have h4 := hQ.out
            rw [List.drop_of_length_le (by simp; omega)] at h4
            rw [← hq.out, HD.out, ← h4]; rfl)
          have FX4 := Lib.hid (FX3.out.below hBx)
          have hb4 := hb23.trans (hBx.mono szw3)
          clear hQ HD hq
          go_wp2_with fail
          go_roundw
          case rel => exact ⟨j + 1, by omega, by go_num, HN, hb4, FX4⟩
          case measure => simp [intOf]; omega
    · have HN : Hid (true = K) := Lib.hid (by rw [← HE.out, ← hq.out, List.drop_of_length_le (by omega)]; rfl)
      go_wp2_with fail
      go_ret
      exact ⟨by rw [← HN.out]; rfl, hBw1.trans (hB.mono hBw1.size)⟩

end Go.Proofs.Ytcdhanfjcnfjjaa
end
