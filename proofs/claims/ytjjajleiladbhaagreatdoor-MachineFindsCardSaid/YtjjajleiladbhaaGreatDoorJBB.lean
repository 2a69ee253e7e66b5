import Derived.Test.YtjjajleiladbhaaGreatDoorJAQ
import Derived.Test.YtjjajleiladbhaaGreatDoorJAW
import Derived.Test.YtjjajleiladbhaaGreatDoorJBA
import Derived.Test.YtjjajleiladbhaaGreatDoorRows
import Derived.KernelRfl
import Derived.Laws.StructEq
section
/- MachineFinds: the law's walk, over this seat's translation (written by ax_lw.py). -/
namespace Go.Proofs.YtjjajleiladbhaaGreatDoor
set_option linter.unusedVariables false
set_option linter.unusedSimpArgs false
open Go.RowKit

/-- a cell of a valid machine is found at its own place -/
theorem cellAtF_first (g : GridD) (p0 p1 : Int) (i : Nat) (hp : cellR g i = p0 ∧ cellZ g i = p1) : ∀ (f k : Nat), k ≤ i → i < k + f → (∀ j : Nat, k ≤ j → j < i → ¬ (cellR g j = p0 ∧ cellZ g j = p1)) → cellAtF g p0 p1 k f = i
  | 0, k, h1, h2, _ => by omega
  | f + 1, k, h1, h2, h3 => by
    unfold cellAtF
    by_cases hk : k = i
    · subst hk; rw [if_pos hp]
    · rw [if_neg (h3 k (Nat.le_refl _) (by omega))]
      exact cellAtF_first g p0 p1 i hp f (k + 1) (by omega) (by omega) (fun j a b => h3 j (by omega) b)
theorem cell_inj {g : GridD} (h : g.Fine) {i j : Int} (hr : cellR g i = cellR g j) (hz : cellZ g i = cellZ g j) : i = j := by
  obtain ⟨_, _, _, _, n0, n1, _, _, s0, s1⟩ := h
  unfold cellR at hr; unfold cellZ at hz
  have e1 : i % g.nr * g.step = j % g.nr * g.step := by omega
  have e2 : i / g.nr * g.step = j / g.nr * g.step := by omega
  have hs : g.step ≠ 0 := by omega
  have f1 := Int.eq_of_mul_eq_mul_right hs e1
  have f2 := Int.eq_of_mul_eq_mul_right hs e2
  have a := Int.mul_ediv_add_emod i g.nr
  have b := Int.mul_ediv_add_emod j g.nr
  rw [f1, f2] at a
  omega
theorem cellAt_own {M : MachD} {i : Int} (h : (cellL M i).2.2 = 0) : cellAtE M (cellL M i).1 (cellL M i).2.1 = i := by
  have e : cellL M i = if checkC M = 0 then if wthn i 0 (M.grid.nr * M.grid.nz - 1) = true then (cellR M.grid i, cellZ M.grid i, 0) else (0, 0, 7) else (0, 0, 1) := rfl
  rw [e] at h ⊢
  by_cases hc : checkC M = 0
  · rw [if_pos hc] at h ⊢
    by_cases hw : wthn i 0 (M.grid.nr * M.grid.nz - 1) = true
    · rw [if_pos hw]
      have hw2 := wthn_iff.1 hw
      have hf := (sound_of hc).grid
      have hn : cellsN M = M.grid.nr * M.grid.nz := by simp [cellsN, hc]
      have ei : ((i.toNat : Nat) : Int) = i := by omega
      unfold cellAtE
      rw [cellAtF_first M.grid _ _ i.toNat (by rw [ei]; exact ⟨rfl, rfl⟩) (cellsN M).toNat 0 (by omega) (by omega) (fun j _ hj hb => by
        have := cell_inj hf (i := (j : Int)) (j := i) hb.1 hb.2
        omega)]
      omega
    · rw [if_neg hw] at h; simp at h
  · rw [if_neg hc] at h; simp at h

theorem lwc_bl_apiCurrents_ : ∀ w, (Instr.build 34 #[]).run Tryz.prog w = .ok (.agg #[(.slice none 0 0), (.slice none 0 0), (.slice none 0 0)]) w := by
  intro w; simp [Instr.build, Instr.fill, cells_agg, Tryz.runUnderlying34, Tryz.zeroValue34, Tryz.sizeOf32]

set_option maxRecDepth 100000 in
theorem lwc_eq_neq_apiPoint (a0 b0 : Int) (a1 b1 : Int) : ∀ w, (binOp .neq 40 (.agg #[.int .i64 a0, .int .i64 a1]) (.agg #[.int .i64 b0, .int .i64 b1])).run Tryz.prog w = .ok (.bool (!decide (a0 = b0 ∧ a1 = b1))) w := by
  intro w
  have e : binOp .neq 40 (.agg #[.int .i64 a0, .int .i64 a1]) (.agg #[.int .i64 b0, .int .i64 b1]) = (do pure (.bool (!(← Op.equal 40 (.agg #[.int .i64 a0, .int .i64 a1]) (.agg #[.int .i64 b0, .int .i64 b1])))) : Sem Value) := rfl
  have h : ∀ w, (Op.equal 40 (.agg #[.int .i64 a0, .int .i64 a1]) (.agg #[.int .i64 b0, .int .i64 b1])).run Tryz.prog w = .ok (decide (a0 = b0 ∧ a1 = b1)) w := by
    intro w
    show (Op.equalIn 10000 40 _ _).run _ w = _
    rw [run_equalIn_struct w 9999 40 _ _ (by kernel_rfl) (by kernel_rfl)]
    simp [Program.fieldsOf, Tryz.underlying40, Op.eqFields, go_sem, Tryz.underlying3, Tryz.isAgg3, Tryz.sizeOf3, str_eq]
    by_cases h0 : a0 = b0 <;> by_cases h1 : a1 = b1 <;> simp [h0, h1]
  rw [e]; simp [h]

theorem lwc_bl_apiPoint_0_1 (a0 a1 : Value) (ha0 : a0.oneCell' = true) (ha1 : a1.oneCell' = true) : ∀ w, (Instr.build 40 #[(0, a0), (1, a1)]).run Tryz.prog w = .ok (.agg #[a0, a1]) w := by
  have ea0 : a0.cells = #[a0] := cells_one ha0
  have ea1 : a1.cells = #[a1] := cells_one ha1
  intro w; simp [Instr.build, Instr.fill, cells_agg, Tryz.runUnderlying40, Tryz.zeroValue40, Tryz.sizeOf3, ea0, ea1]

set_option maxRecDepth 100000 in
theorem finds_walk (R : MachR) (M : MachD) (i : Int) (s : ByteArray) (W : World) (hE : Env W) (hM : R.la ≤ 1000000000000000 → R.lb ≤ 1000000000000000 → R.lc ≤ 1000000000000000 → R.ld ≤ 1000000000000000 → IsM W R M) (hi : -9223372036854775808 ≤ i ∧ i ≤ 9223372036854775807) : Calls Tryz.prog 4 #[(.agg (machCells R M)), (.int .i64 i), (.string s)] W (Ret (.bool true) W) := by
  refine calls_ax (vs := [(.agg (machCells R M)), (.int .i64 i), (.string s)]) Tryz.func4 rfl rfl ?_
  refine ac_seq ?_
  refine ac_region ?_
  refine al_new (fun b => .pointer (some ⟨b, 0, none⟩)) (r_box rfl rfl) rfl rfl rfl ?_
  intro b1
  refine al_q (q_assign rfl) rfl rfl rfl ?_
  refine al_end ?_
  refine aq_then ?_
  refine ac_seq ?_
  refine ac_seq ?_
  refine ac_region ?_
  refine al_q (q_loadAll (i := 0) rfl rfl Tryz.isAgg29 Tryz.sizeOf29 rfl) rfl rfl rfl ?_
  refine al_q (q_build .nil (lwc_bl_apiCurrents_)) rfl rfl rfl ?_
  refine al_call Tryz.call16 (.cons rfl (.cons rfl .nil)) rfl rfl (fun w1 hs1 => ?_)
  refine (brief2_any R M ⟨none, none, none, 0, 0, 0, 0, 0, 0⟩ _).mono ?_
  rintro e u1 ⟨rfl, hb_1⟩
  refine ⟨_, rfl, hb_1, ?_⟩
  clear hs1
  refine al_q (q_not rfl) rfl rfl rfl ?_
  refine al_end ?_
  refine aq_then ?_
  refine ac_cond rfl (fun h1 => ?_) (fun h1 => ?_)
  · skip
    refine ac_seq ?_
    refine ac_region ?_
    refine al_call Tryz.call19 .nil rfl rfl (fun w2 hs2 => ?_)
    refine (awake2_any _ (hE.below hs2.below)).mono ?_
    rintro e u2 ⟨rfl, hb_2⟩
    refine ⟨_, rfl, hb_2, ?_⟩
    clear hs2
    refine al_q (q_assign rfl) rfl rfl rfl ?_
    refine al_end ?_
    refine aq_then ?_
    refine ac_ret ?_
    refine aq_thenR ?_
    refine ret1 Tryz.results4 rfl (fun w9 hs => ?_)
    exact ⟨rfl, hs.below⟩
  · have hbf := brief2_iff.1 (show brief2 R ⟨none, none, none, 0, 0, 0, 0, 0, 0⟩ = true by simpa using h1)
    have hM := hM (by omega) (by omega) (by omega) (by omega)
    refine ac_skip ?_
    refine aq_then ?_
    refine ac_seq ?_
    refine ac_region ?_
    refine al_q (q_loadAll (i := 0) rfl rfl Tryz.isAgg29 Tryz.sizeOf29 rfl) rfl rfl rfl ?_
    refine al_q (q_move rfl) rfl rfl rfl ?_
    refine al_call Tryz.call20 (.cons rfl (.cons rfl .nil)) rfl rfl (fun w3 hs3 => ?_)
    refine (mcell_any R M i _ (hM.below hs3.below)).mono ?_
    rintro e u3 ⟨rfl, hb_3⟩
    refine ⟨_, rfl, hb_3, ?_⟩
    clear hs3
    refine al_q (q_move rfl) rfl rfl rfl ?_
    refine al_q (q_extract rfl rfl) rfl rfl rfl ?_
    refine al_q (q_extract rfl rfl) rfl rfl rfl ?_
    refine al_new (fun b => .pointer (some ⟨b, 0, none⟩)) (r_alloc Tryz.zeroValue40 rfl) rfl rfl rfl ?_
    intro b2
    refine al_storeAll (i := 0) rfl rfl rfl rfl Tryz.sizeOf40 rfl rfl .k0 rfl ?_
    refine al_q (q_assign rfl) rfl rfl rfl ?_
    refine al_end ?_
    refine aq_then ?_
    refine ac_seq ?_
    refine ac_region ?_
    refine al_q (q_loadAll (i := 1) rfl rfl Tryz.isAgg29 Tryz.sizeOf29 rfl) rfl rfl rfl ?_
    refine al_q (q_move rfl) rfl rfl rfl ?_
    refine al_call Tryz.call21 (.cons rfl (.cons rfl .nil)) rfl rfl (fun w4 hs4 => ?_)
    refine (rcell_any R M i _ (hM.below hs4.below)).mono ?_
    rintro e u4 ⟨rfl, hb_4⟩
    refine ⟨_, rfl, hb_4, ?_⟩
    clear hs4
    refine al_q (q_move rfl) rfl rfl rfl ?_
    refine al_q (q_extract rfl rfl) rfl rfl rfl ?_
    refine al_q (q_extract rfl rfl) rfl rfl rfl ?_
    refine al_new (fun b => .pointer (some ⟨b, 0, none⟩)) (r_alloc Tryz.zeroValue40 rfl) rfl rfl rfl ?_
    intro b3
    refine al_storeAll (i := 0) rfl rfl rfl rfl Tryz.sizeOf40 rfl rfl .k0 rfl ?_
    refine al_q (q_assign rfl) rfl rfl rfl ?_
    refine al_end ?_
    refine aq_then ?_
    refine ac_seq ?_
    refine ac_seq ?_
    refine ac_draw 32 (by kernel_rfl) (by kernel_rfl) ?_
    refine ah_take 0 (fun w9 hs => hs) rfl rfl rfl (by kernel_rfl) (by kernel_rfl) (by kernel_rfl) (fun _ _ _ h => h) rfl (q_loadAll (i := 1) rfl rfl Tryz.isAgg40 Tryz.sizeOf40 rfl) ?_
    refine ah_take 1 (fun w9 hs => hs) rfl rfl rfl (by kernel_rfl) (by kernel_rfl) (by kernel_rfl) (fun _ _ _ h => h) rfl (q_loadAll (i := 0) rfl rfl Tryz.isAgg40 Tryz.sizeOf40 rfl) ?_
    refine ah_take 2 (fun w9 hs => hs) rfl rfl rfl (by kernel_rfl) (by kernel_rfl) (by kernel_rfl) (fun _ _ _ h => h) rfl (q_same (v' := .bool false) (q_cmpS rfl rfl (by kernel_rfl) (lwc_eq_neq_apiPoint _ _ _ _)) (by simp)) ?_
    refine ah_take 3 (fun w9 hs => hs) rfl rfl rfl (by kernel_rfl) (by kernel_rfl) (by kernel_rfl) (fun _ _ _ h => h) rfl (q_move rfl) ?_
    refine ah_take 4 (fun w9 hs => hs) rfl rfl rfl (by kernel_rfl) (by kernel_rfl) (by kernel_rfl) (fun _ _ _ h => h) rfl (q_move rfl) ?_
    refine ah_take 5 (fun w9 hs => hs) rfl rfl rfl (by kernel_rfl) (by kernel_rfl) (by kernel_rfl) (fun _ _ _ h => h) rfl (q_move rfl) ?_
    refine ah_take 6 (fun w9 hs => hs) rfl rfl rfl (by kernel_rfl) (by kernel_rfl) (by kernel_rfl) (fun _ _ _ h => h) rfl (q_same (v' := .bool false) (q_neq rfl rfl) (by simp)) ?_
    refine ah_take 7 (fun w9 hs => hs) rfl rfl rfl (by kernel_rfl) (by kernel_rfl) (by kernel_rfl) (fun _ _ _ h => h) rfl (q_pickF rfl rfl) ?_
    refine ah_take 8 (fun w9 hs => hs) rfl rfl rfl (by kernel_rfl) (by kernel_rfl) (by kernel_rfl) (fun _ _ _ h => h) rfl (q_move rfl) ?_
    refine ah_take 9 (fun w9 hs => hs) rfl rfl rfl (by kernel_rfl) (by kernel_rfl) (by kernel_rfl) (fun _ _ _ h => h) rfl (q_loadAll (i := 2) rfl rfl Tryz.isAgg29 Tryz.sizeOf29 rfl) ?_
    refine ah_take 11 (fun w9 hs => hs) rfl rfl rfl (by kernel_rfl) (by kernel_rfl) (by kernel_rfl) (fun _ _ _ h => h) rfl (q_loadAll (i := 2) rfl rfl Tryz.isAgg29 Tryz.sizeOf29 rfl) ?_
    refine ah_one 10 rfl (by kernel_rfl) (fun hok1 hcl1 => ?_)
    refine al_call Tryz.call22 (.cons rfl .nil) rfl rfl (fun w5 hs5 => ?_)
    refine (mcells_any R M _ (hM.below hs5.below)).mono ?_
    rintro e u5 ⟨rfl, hb_5⟩
    refine ⟨_, rfl, hb_5, ?_⟩
    clear hs5
    refine al_end (ah_back hok1 hcl1 (fun w9 hs => (hs.fewer 1 rfl)) ?_)
    refine ah_one 12 rfl (by kernel_rfl) (fun hok2 hcl2 => ?_)
    refine al_call Tryz.call23 (.cons rfl .nil) rfl rfl (fun w6 hs6 => ?_)
    refine (rcellsN_any R M _ (hM.below hs6.below)).mono ?_
    rintro e u6 ⟨rfl, hb_6⟩
    refine ⟨_, rfl, hb_6, ?_⟩
    clear hs6
    refine al_end (ah_back hok2 hcl2 (fun w9 hs => (hs.fewer 2 rfl)) ?_)
    refine ah_take 13 (fun w9 hs => (hs.fewer 2 rfl)) rfl rfl rfl (by kernel_rfl) (by kernel_rfl) (by kernel_rfl) (fun _ _ _ h => h) rfl (q_same (v' := .bool false) (q_neq rfl rfl) (by simp)) ?_
    refine ah_take 14 (fun w9 hs => (hs.fewer 2 rfl)) rfl rfl rfl (by kernel_rfl) (by kernel_rfl) (by kernel_rfl) (fun _ _ _ h => h) rfl (q_pickF rfl rfl) ?_
    refine ah_take 15 (fun w9 hs => (hs.fewer 2 rfl)) rfl rfl rfl (by kernel_rfl) (by kernel_rfl) (by kernel_rfl) (fun _ _ _ h => h) rfl (q_move rfl) ?_
    refine ah_take 16 (fun w9 hs => (hs.fewer 2 rfl)) rfl rfl rfl (by kernel_rfl) (by kernel_rfl) (by kernel_rfl) (fun _ _ _ h => h) rfl (q_loadAll (i := 2) rfl rfl Tryz.isAgg29 Tryz.sizeOf29 rfl) ?_
    refine ah_take 17 (fun w9 hs => (hs.fewer 2 rfl)) rfl rfl rfl (by kernel_rfl) (by kernel_rfl) (by kernel_rfl) (fun _ _ _ h => h) rfl (q_move rfl) ?_
    refine ah_take 19 (fun w9 hs => (hs.fewer 2 rfl)) rfl rfl rfl (by kernel_rfl) (by kernel_rfl) (by kernel_rfl) (fun _ _ _ h => h) rfl (q_loadAll (i := 2) rfl rfl Tryz.isAgg29 Tryz.sizeOf29 rfl) ?_
    refine ah_take 20 (fun w9 hs => (hs.fewer 2 rfl)) rfl rfl rfl (by kernel_rfl) (by kernel_rfl) (by kernel_rfl) (fun _ _ _ h => h) rfl (q_move rfl) ?_
    refine ah_one 18 rfl (by kernel_rfl) (fun hok3 hcl3 => ?_)
    refine al_call Tryz.call24 (.cons rfl (.cons rfl .nil)) rfl rfl (fun w7 hs7 => ?_)
    refine (mcoil_any R M s _ (hM.below hs7.below)).mono ?_
    rintro e u7 ⟨rfl, hb_7⟩
    refine ⟨_, rfl, hb_7, ?_⟩
    clear hs7
    refine al_end (ah_back hok3 hcl3 (fun w9 hs => (hs.fewer 3 rfl)) ?_)
    refine ah_one 21 rfl (by kernel_rfl) (fun hok4 hcl4 => ?_)
    refine al_call Tryz.call25 (.cons rfl (.cons rfl .nil)) rfl rfl (fun w8 hs8 => ?_)
    refine (rcoil_any R M s _ (hM.below hs8.below)).mono ?_
    rintro e u8 ⟨rfl, hb_8⟩
    refine ⟨_, rfl, hb_8, ?_⟩
    clear hs8
    refine al_end (ah_back hok4 hcl4 (fun w9 hs => (hs.fewer 4 rfl)) ?_)
    refine ah_take 22 (fun w9 hs => (hs.fewer 4 rfl)) rfl rfl rfl (by kernel_rfl) (by kernel_rfl) (by kernel_rfl) (fun _ _ _ h => h) rfl (q_same (v' := .bool false) (q_neq rfl rfl) (by simp)) ?_
    refine ah_take 23 (fun w9 hs => (hs.fewer 4 rfl)) rfl rfl rfl (by kernel_rfl) (by kernel_rfl) (by kernel_rfl) (fun _ _ _ h => h) rfl (q_pickF rfl rfl) ?_
    refine ah_take 24 (fun w9 hs => (hs.fewer 4 rfl)) rfl rfl rfl (by kernel_rfl) (by kernel_rfl) (by kernel_rfl) (fun _ _ _ h => h) rfl (q_move rfl) ?_
    refine ah_take 25 (fun w9 hs => (hs.fewer 4 rfl)) rfl rfl rfl (by kernel_rfl) (by kernel_rfl) (by kernel_rfl) (fun _ _ _ h => h) rfl (q_loadAll (i := 2) rfl rfl Tryz.isAgg29 Tryz.sizeOf29 rfl) ?_
    refine ah_take 26 (fun w9 hs => (hs.fewer 4 rfl)) rfl rfl rfl (by kernel_rfl) (by kernel_rfl) (by kernel_rfl) (fun _ _ _ h => h) rfl (q_move rfl) ?_
    refine ah_take 28 (fun w9 hs => (hs.fewer 4 rfl)) rfl rfl rfl (by kernel_rfl) (by kernel_rfl) (by kernel_rfl) (fun _ _ _ h => h) rfl (q_loadAll (i := 2) rfl rfl Tryz.isAgg29 Tryz.sizeOf29 rfl) ?_
    refine ah_take 29 (fun w9 hs => (hs.fewer 4 rfl)) rfl rfl rfl (by kernel_rfl) (by kernel_rfl) (by kernel_rfl) (fun _ _ _ h => h) rfl (q_move rfl) ?_
    refine ah_one 27 rfl (by kernel_rfl) (fun hok5 hcl5 => ?_)
    refine al_call Tryz.call26 (.cons rfl (.cons rfl .nil)) rfl rfl (fun w9 hs9 => ?_)
    refine (msensor_any R M s _ (hM.below hs9.below)).mono ?_
    rintro e u9 ⟨rfl, hb_9⟩
    refine ⟨_, rfl, hb_9, ?_⟩
    clear hs9
    refine al_end (ah_back hok5 hcl5 (fun w9 hs => (hs.fewer 5 rfl)) ?_)
    refine ah_one 30 rfl (by kernel_rfl) (fun hok6 hcl6 => ?_)
    refine al_call Tryz.call27 (.cons rfl (.cons rfl .nil)) rfl rfl (fun w10 hs10 => ?_)
    refine (rsensor_any R M s _ (hM.below hs10.below)).mono ?_
    rintro e u10 ⟨rfl, hb_10⟩
    refine ⟨_, rfl, hb_10, ?_⟩
    clear hs10
    refine al_end (ah_back hok6 hcl6 (fun w9 hs => (hs.fewer 6 rfl)) ?_)
    refine ah_take 31 (fun w9 hs => (hs.fewer 6 rfl)) rfl rfl rfl (by kernel_rfl) (by kernel_rfl) (by kernel_rfl) (fun _ _ _ h => h) rfl (q_same (v' := .bool false) (q_neq rfl rfl) (by simp)) ?_
    refine ah_take 32 (fun w9 hs => (hs.fewer 6 rfl)) rfl rfl rfl (by kernel_rfl) (by kernel_rfl) (by kernel_rfl) (fun _ _ _ h => h) rfl (q_pickF rfl rfl) ?_
    refine ah_done (by kernel_rfl) ?_
    refine aq_then ?_
    refine ac_condF rfl ?_
    refine ac_skip ?_
    refine aq_then ?_
    refine ac_seq ?_
    refine ac_draw 27 (by kernel_rfl) (by kernel_rfl) ?_
    refine ah_take 0 (fun w9 hs => hs) rfl rfl rfl (by kernel_rfl) (by kernel_rfl) (by kernel_rfl) (fun _ _ _ h => h) rfl (q_move rfl) ?_
    refine ah_take 1 (fun w9 hs => hs) rfl rfl rfl (by kernel_rfl) (by kernel_rfl) (by kernel_rfl) (fun _ _ _ h => h) rfl (q_neq rfl rfl) ?_
    refine ah_take 2 (fun w9 hs => hs) rfl rfl rfl (by kernel_rfl) (by kernel_rfl) (by kernel_rfl) (fun _ _ _ h => h) rfl (q_move rfl) ?_
    refine ah_split 63 rfl (fun hb1 => ?_) (fun hb1 => ?_)
    · skip
      refine ah_skip 3 (fun w9 hs => hs) rfl rfl rfl (by kernel_rfl) (by kernel_rfl) (by kernel_rfl) (fun _ _ _ h => h) rfl ?_
      refine ah_skip 4 (fun w9 hs => hs) rfl rfl rfl (by kernel_rfl) (by kernel_rfl) (by kernel_rfl) (fun _ _ _ h => h) rfl ?_
      refine ah_skip 5 (fun w9 hs => hs) rfl rfl rfl (by kernel_rfl) (by kernel_rfl) (by kernel_rfl) (fun _ _ _ h => h) rfl ?_
      refine ah_skip 6 (fun w9 hs => hs) rfl rfl rfl (by kernel_rfl) (by kernel_rfl) (by kernel_rfl) (fun _ _ _ h => h) rfl ?_
      refine ah_skip 7 (fun w9 hs => hs) rfl rfl rfl (by kernel_rfl) (by kernel_rfl) (by kernel_rfl) (fun _ _ _ h => h) rfl ?_
      refine ah_take 8 (fun w9 hs => hs) rfl rfl rfl (by kernel_rfl) (by kernel_rfl) (by kernel_rfl) (fun _ _ _ h => h) rfl (q_pickT rfl rfl) ?_
      refine ah_take 9 (fun w9 hs => hs) rfl rfl rfl (by kernel_rfl) (by kernel_rfl) (by kernel_rfl) (fun _ _ _ h => h) rfl (q_move rfl) ?_
      refine ah_take 10 (fun w9 hs => hs) rfl rfl rfl (by kernel_rfl) (by kernel_rfl) (by kernel_rfl) (fun _ _ _ h => h) rfl (q_loadAll (i := 2) rfl rfl Tryz.isAgg29 Tryz.sizeOf29 rfl) ?_
      refine ah_take 11 (fun w9 hs => hs) rfl rfl rfl (by kernel_rfl) (by kernel_rfl) (by kernel_rfl) (fun _ _ _ h => h) rfl (q_move rfl) ?_
      refine ah_take 12 (fun w9 hs => hs) rfl rfl rfl (by kernel_rfl) (by kernel_rfl) (by kernel_rfl) (fun _ _ _ h => h) rfl (q_move rfl) ?_
      refine ah_take 13 (fun w9 hs => hs) rfl rfl rfl (by kernel_rfl) (by kernel_rfl) (by kernel_rfl) (fun _ _ _ h => h) rfl (q_lenT rfl Tryz.runUnderlying9) ?_
      refine ah_take 14 (fun w9 hs => hs) rfl rfl rfl (by kernel_rfl) (by kernel_rfl) (by kernel_rfl) (fun _ _ _ h => h) rfl (q_build (.cons rfl (.cons rfl .nil)) (lwc_bl_apiPoint_0_1 _ _ rfl rfl)) ?_
      refine ah_take 16 (fun w9 hs => hs) rfl rfl rfl (by kernel_rfl) (by kernel_rfl) (by kernel_rfl) (fun _ _ _ h => h) rfl (q_loadAll (i := 2) rfl rfl Tryz.isAgg29 Tryz.sizeOf29 rfl) ?_
      refine ah_take 17 (fun w9 hs => hs) rfl rfl rfl (by kernel_rfl) (by kernel_rfl) (by kernel_rfl) (fun _ _ _ h => h) rfl (q_move rfl) ?_
      refine ah_take 18 (fun w9 hs => hs) rfl rfl rfl (by kernel_rfl) (by kernel_rfl) (by kernel_rfl) (fun _ _ _ h => h) rfl (q_move rfl) ?_
      refine ah_take 19 (fun w9 hs => hs) rfl rfl rfl (by kernel_rfl) (by kernel_rfl) (by kernel_rfl) (fun _ _ _ h => h) rfl (q_lenT rfl Tryz.runUnderlying9) ?_
      refine ah_take 20 (fun w9 hs => hs) rfl rfl rfl (by kernel_rfl) (by kernel_rfl) (by kernel_rfl) (fun _ _ _ h => h) rfl (q_build (.cons rfl (.cons rfl .nil)) (lwc_bl_apiPoint_0_1 _ _ rfl rfl)) ?_
      refine ah_one 15 rfl (by kernel_rfl) (fun hok7 hcl7 => ?_)
      refine al_call Tryz.call28 (.cons rfl (.cons rfl .nil)) rfl rfl (fun w11 hs11 => ?_)
      refine (cellAt_any R M i (s.size : Int) _ (hM.below hs11.below)).mono ?_
      rintro e u11 ⟨rfl, hb_11⟩
      refine ⟨_, rfl, hb_11, ?_⟩
      clear hs11
      refine al_end (ah_back hok7 hcl7 (fun w9 hs => (hs.fewer 1 rfl)) ?_)
      refine ah_one 21 rfl (by kernel_rfl) (fun hok8 hcl8 => ?_)
      refine al_call Tryz.call29 (.cons rfl (.cons rfl .nil)) rfl rfl (fun w12 hs12 => ?_)
      refine (rcellAt_any R M i (s.size : Int) _ (hM.below hs12.below)).mono ?_
      rintro e u12 ⟨rfl, hb_12⟩
      refine ⟨_, rfl, hb_12, ?_⟩
      clear hs12
      refine al_end (ah_back hok8 hcl8 (fun w9 hs => (hs.fewer 2 rfl)) ?_)
      refine ah_take 22 (fun w9 hs => (hs.fewer 2 rfl)) rfl rfl rfl (by kernel_rfl) (by kernel_rfl) (by kernel_rfl) (fun _ _ _ h => h) rfl (q_same (v' := .bool true) (q_eql rfl rfl) (by simp)) ?_
      refine ah_take 23 (fun w9 hs => (hs.fewer 2 rfl)) rfl rfl rfl (by kernel_rfl) (by kernel_rfl) (by kernel_rfl) (fun _ _ _ h => h) rfl (q_pickT rfl rfl) ?_
      refine ah_take 24 (fun w9 hs => (hs.fewer 2 rfl)) rfl rfl rfl (by kernel_rfl) (by kernel_rfl) (by kernel_rfl) (fun _ _ _ h => h) rfl (q_move rfl) ?_
      refine ah_one 25 rfl (by kernel_rfl) (fun hok9 hcl9 => ?_)
      refine al_call Tryz.call19 .nil rfl rfl (fun w13 hs13 => ?_)
      refine (awake2_any _ (hE.below hs13.below)).mono ?_
      rintro e u13 ⟨rfl, hb_13⟩
      refine ⟨_, rfl, hb_13, ?_⟩
      clear hs13
      refine al_end (ah_back hok9 hcl9 (fun w9 hs => (hs.fewer 3 rfl)) ?_)
      refine ah_take 26 (fun w9 hs => (hs.fewer 3 rfl)) rfl rfl rfl (by kernel_rfl) (by kernel_rfl) (by kernel_rfl) (fun _ _ _ h => h) rfl (q_pickT rfl rfl) ?_
      refine ah_one 27 rfl (by kernel_rfl) (fun hok10 hcl10 => ?_)
      refine al_q (q_assign rfl) rfl rfl rfl ?_
      refine al_end (ah_last (by kernel_rfl) ?_)
      refine aq_then ?_
      refine aq_keepL [6] (.cons rfl .nil) ?_
      refine aq_keepB (.drop (.drop (.drop .nil))) ?_
      refine ac_ret ?_
      refine ret1 Tryz.results4 rfl (fun w9 hs => ?_)
      exact ⟨rfl, hs.below⟩
    · have he : (cellL M i).2.2 = 0 := by simpa using hb1
      refine ah_take 3 (fun w9 hs => hs) rfl rfl rfl (by kernel_rfl) (by kernel_rfl) (by kernel_rfl) (fun _ _ _ h => h) rfl (q_loadAll (i := 2) rfl rfl Tryz.isAgg29 Tryz.sizeOf29 rfl) ?_
      refine ah_take 4 (fun w9 hs => hs) rfl rfl rfl (by kernel_rfl) (by kernel_rfl) (by kernel_rfl) (fun _ _ _ h => h) rfl (q_loadAll (i := 1) rfl rfl Tryz.isAgg40 Tryz.sizeOf40 rfl) ?_
      refine ah_take 6 (fun w9 hs => hs) rfl rfl rfl (by kernel_rfl) (by kernel_rfl) (by kernel_rfl) (fun _ _ _ h => h) rfl (q_move rfl) ?_
      refine ah_one 5 rfl (by kernel_rfl) (fun hok11 hcl11 => ?_)
      refine al_call Tryz.call28 (.cons rfl (.cons rfl .nil)) rfl rfl (fun w14 hs14 => ?_)
      refine (cellAt_any R M (cellL M i).1 (cellL M i).2.1 _ (hM.below hs14.below)).mono ?_
      rintro e u14 ⟨rfl, hb_14⟩
      refine ⟨_, rfl, hb_14, ?_⟩
      clear hs14
      refine al_end (ah_back hok11 hcl11 (fun w9 hs => (hs.fewer 1 rfl)) ?_)
      refine ah_take 7 (fun w9 hs => (hs.fewer 1 rfl)) rfl rfl rfl (by kernel_rfl) (by kernel_rfl) (by kernel_rfl) (fun _ _ _ h => h) rfl (q_same (v' := .bool true) (q_eql rfl rfl) (by rw [cellAt_own he]; simp)) ?_
      refine ah_take 8 (fun w9 hs => (hs.fewer 1 rfl)) rfl rfl rfl (by kernel_rfl) (by kernel_rfl) (by kernel_rfl) (fun _ _ _ h => h) rfl (q_pickF rfl rfl) ?_
      refine ah_take 9 (fun w9 hs => (hs.fewer 1 rfl)) rfl rfl rfl (by kernel_rfl) (by kernel_rfl) (by kernel_rfl) (fun _ _ _ h => h) rfl (q_move rfl) ?_
      refine ah_take 10 (fun w9 hs => (hs.fewer 1 rfl)) rfl rfl rfl (by kernel_rfl) (by kernel_rfl) (by kernel_rfl) (fun _ _ _ h => h) rfl (q_loadAll (i := 2) rfl rfl Tryz.isAgg29 Tryz.sizeOf29 rfl) ?_
      refine ah_take 11 (fun w9 hs => (hs.fewer 1 rfl)) rfl rfl rfl (by kernel_rfl) (by kernel_rfl) (by kernel_rfl) (fun _ _ _ h => h) rfl (q_move rfl) ?_
      refine ah_take 12 (fun w9 hs => (hs.fewer 1 rfl)) rfl rfl rfl (by kernel_rfl) (by kernel_rfl) (by kernel_rfl) (fun _ _ _ h => h) rfl (q_move rfl) ?_
      refine ah_take 13 (fun w9 hs => (hs.fewer 1 rfl)) rfl rfl rfl (by kernel_rfl) (by kernel_rfl) (by kernel_rfl) (fun _ _ _ h => h) rfl (q_lenT rfl Tryz.runUnderlying9) ?_
      refine ah_take 14 (fun w9 hs => (hs.fewer 1 rfl)) rfl rfl rfl (by kernel_rfl) (by kernel_rfl) (by kernel_rfl) (fun _ _ _ h => h) rfl (q_build (.cons rfl (.cons rfl .nil)) (lwc_bl_apiPoint_0_1 _ _ rfl rfl)) ?_
      refine ah_take 16 (fun w9 hs => (hs.fewer 1 rfl)) rfl rfl rfl (by kernel_rfl) (by kernel_rfl) (by kernel_rfl) (fun _ _ _ h => h) rfl (q_loadAll (i := 2) rfl rfl Tryz.isAgg29 Tryz.sizeOf29 rfl) ?_
      refine ah_take 17 (fun w9 hs => (hs.fewer 1 rfl)) rfl rfl rfl (by kernel_rfl) (by kernel_rfl) (by kernel_rfl) (fun _ _ _ h => h) rfl (q_move rfl) ?_
      refine ah_take 18 (fun w9 hs => (hs.fewer 1 rfl)) rfl rfl rfl (by kernel_rfl) (by kernel_rfl) (by kernel_rfl) (fun _ _ _ h => h) rfl (q_move rfl) ?_
      refine ah_take 19 (fun w9 hs => (hs.fewer 1 rfl)) rfl rfl rfl (by kernel_rfl) (by kernel_rfl) (by kernel_rfl) (fun _ _ _ h => h) rfl (q_lenT rfl Tryz.runUnderlying9) ?_
      refine ah_take 20 (fun w9 hs => (hs.fewer 1 rfl)) rfl rfl rfl (by kernel_rfl) (by kernel_rfl) (by kernel_rfl) (fun _ _ _ h => h) rfl (q_build (.cons rfl (.cons rfl .nil)) (lwc_bl_apiPoint_0_1 _ _ rfl rfl)) ?_
      refine ah_one 15 rfl (by kernel_rfl) (fun hok12 hcl12 => ?_)
      refine al_call Tryz.call28 (.cons rfl (.cons rfl .nil)) rfl rfl (fun w15 hs15 => ?_)
      refine (cellAt_any R M i (s.size : Int) _ (hM.below hs15.below)).mono ?_
      rintro e u15 ⟨rfl, hb_15⟩
      refine ⟨_, rfl, hb_15, ?_⟩
      clear hs15
      refine al_end (ah_back hok12 hcl12 (fun w9 hs => (hs.fewer 2 rfl)) ?_)
      refine ah_one 21 rfl (by kernel_rfl) (fun hok13 hcl13 => ?_)
      refine al_call Tryz.call29 (.cons rfl (.cons rfl .nil)) rfl rfl (fun w16 hs16 => ?_)
      refine (rcellAt_any R M i (s.size : Int) _ (hM.below hs16.below)).mono ?_
      rintro e u16 ⟨rfl, hb_16⟩
      refine ⟨_, rfl, hb_16, ?_⟩
      clear hs16
      refine al_end (ah_back hok13 hcl13 (fun w9 hs => (hs.fewer 3 rfl)) ?_)
      refine ah_take 22 (fun w9 hs => (hs.fewer 3 rfl)) rfl rfl rfl (by kernel_rfl) (by kernel_rfl) (by kernel_rfl) (fun _ _ _ h => h) rfl (q_same (v' := .bool true) (q_eql rfl rfl) (by simp)) ?_
      refine ah_take 23 (fun w9 hs => (hs.fewer 3 rfl)) rfl rfl rfl (by kernel_rfl) (by kernel_rfl) (by kernel_rfl) (fun _ _ _ h => h) rfl (q_pickT rfl rfl) ?_
      refine ah_take 24 (fun w9 hs => (hs.fewer 3 rfl)) rfl rfl rfl (by kernel_rfl) (by kernel_rfl) (by kernel_rfl) (fun _ _ _ h => h) rfl (q_move rfl) ?_
      refine ah_one 25 rfl (by kernel_rfl) (fun hok14 hcl14 => ?_)
      refine al_call Tryz.call19 .nil rfl rfl (fun w17 hs17 => ?_)
      refine (awake2_any _ (hE.below hs17.below)).mono ?_
      rintro e u17 ⟨rfl, hb_17⟩
      refine ⟨_, rfl, hb_17, ?_⟩
      clear hs17
      refine al_end (ah_back hok14 hcl14 (fun w9 hs => (hs.fewer 4 rfl)) ?_)
      refine ah_take 26 (fun w9 hs => (hs.fewer 4 rfl)) rfl rfl rfl (by kernel_rfl) (by kernel_rfl) (by kernel_rfl) (fun _ _ _ h => h) rfl (q_pickT rfl rfl) ?_
      refine ah_one 27 rfl (by kernel_rfl) (fun hok15 hcl15 => ?_)
      refine al_q (q_assign rfl) rfl rfl rfl ?_
      refine al_end (ah_last (by kernel_rfl) ?_)
      refine aq_then ?_
      refine ac_ret ?_
      refine ret1 Tryz.results4 rfl (fun w9 hs => ?_)
      exact ⟨rfl, hs.below⟩

end Go.Proofs.YtjjajleiladbhaaGreatDoor
end
