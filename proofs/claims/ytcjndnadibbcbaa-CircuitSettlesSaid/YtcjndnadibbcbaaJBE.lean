import Derived.Test.YtcjndnadibbcbaaJBD
import Derived.Test.YtcjndnadibbcbaaRows
import Derived.KernelRfl
import Derived.Laws.StructEq
section
/- The specification of layer 3: Begin, Same, Rest, over this seat's translation (written by ax_ci12.py). -/
namespace Go.Proofs.Ytcjndnadibbcbaa
set_option linter.unusedVariables false
set_option linter.unusedSimpArgs false
open Go.RowKit

theorem kir_bl_apiState_1_2_3 (c0_0 c0_1 c0_2 a1 a2 : Value) (ha1 : a1.oneCell' = true) (ha2 : a2.oneCell' = true) : ∀ w, (Instr.build 35 #[(1, .agg #[c0_0, c0_1, c0_2]), (2, a1), (3, a2)]).run Try.prog w = .ok (.agg #[(.int .i64 0), c0_0, c0_1, c0_2, a1, a2]) w := by
  have ea1 : a1.cells = #[a1] := cells_one ha1
  have ea2 : a2.cells = #[a2] := cells_one ha2
  intro w; simp [Instr.build, Instr.fill, cells_agg, Try.runUnderlying35, Try.zeroValue35, Try.sizeOf3, Try.sizeOf30, Try.sizeOf32, Try.sizeOf33, ea1, ea2]

set_option maxRecDepth 100000 in
theorem rbegin_ok (R : MachR) (M : MachD) (w : World) (hM : IsM w R M) (hc : checkC M = 0) : Calls Try.prog 12 #[(.agg (machCells R M))] w (OutS w 0 (beginD M)) := by
  have n1 := hM.coils.1
  have n5 := (sound_of hc).coils.1
  have n6 := (sound_of hc).shells.1
  have n2 := hM.shells.1
  have n7 := cellN_bd hc
  refine calls_ax (vs := [(.agg (machCells R M))]) Try.func12 rfl rfl ?_
  refine ac_seq ?_
  refine ac_region ?_
  refine al_new (fun b => .pointer (some ⟨b, 0, none⟩)) (r_box rfl rfl) rfl rfl rfl ?_
  intro b1
  refine al_new (fun b => .pointer (some ⟨b, 0, none⟩)) (r_alloc Try.zeroValue35 rfl) rfl rfl rfl ?_
  intro b2
  refine al_q (q_assign rfl) rfl rfl rfl ?_
  refine al_end ?_
  refine aq_then ?_
  refine ac_seq ?_
  refine ac_seq ?_
  refine ac_region ?_
  refine al_q (q_loadAll (i := 1) rfl rfl Try.isAgg29 Try.sizeOf29 rfl) rfl rfl rfl ?_
  refine al_call Try.call32 (.cons rfl .nil) rfl rfl (fun w1 hs1 => ?_)
  refine (rcheck_any R M _ (hM.below hs1.below)).mono ?_
  rintro e u1 ⟨rfl, hb_1⟩
  refine ⟨_, rfl, hb_1, ?_⟩
  clear hs1
  refine al_q (q_neq rfl rfl) rfl rfl rfl ?_
  refine al_end ?_
  refine aq_then ?_
  refine ac_cond rfl (fun h1 => ?_) (fun h1 => ?_)
  · exfalso; simp [hc] at h1
  · skip
    refine ac_skip ?_
    refine aq_then ?_
    refine ac_seq ?_
    refine ac_drawK 1 12 rfl (by kernel_rfl) (by kernel_rfl) ?_
    refine ah_take 0 (fun w9 hs => (hs.tail 1 rfl)) rfl rfl rfl (by kernel_rfl) (by kernel_rfl) (by kernel_rfl) (fun _ _ _ h => h) rfl (q_loadAll (i := 0) rfl rfl Try.isAgg29 Try.sizeOf29 rfl) ?_
    refine ah_take 2 (fun w9 hs => (hs.tail 1 rfl)) rfl rfl rfl (by kernel_rfl) (by kernel_rfl) (by kernel_rfl) (fun _ _ _ h => h) rfl (q_fieldAddr 1 rfl Try.runUnderlying29 rfl Try.sizeOf22 (by decide) rfl) ?_
    refine ah_take 3 (fun w9 hs => (hs.tail 1 rfl)) rfl rfl rfl (by kernel_rfl) (by kernel_rfl) (by kernel_rfl) (fun _ _ _ h => h) rfl (q_load (i := 0) rfl rfl rfl Try.isAgg22) ?_
    refine ah_take 4 (fun w9 hs => (hs.tail 1 rfl)) rfl rfl rfl (by kernel_rfl) (by kernel_rfl) (by kernel_rfl) (fun _ _ _ h => h) rfl (q_lenS rfl Try.runUnderlying22) ?_
    refine ah_take 6 (fun w9 hs => (hs.tail 1 rfl)) rfl rfl rfl (by kernel_rfl) (by kernel_rfl) (by kernel_rfl) (fun _ _ _ h => h) rfl (q_fieldAddr 1 rfl Try.runUnderlying29 rfl Try.sizeOf22 (by decide) rfl) ?_
    refine ah_take 7 (fun w9 hs => (hs.tail 1 rfl)) rfl rfl rfl (by kernel_rfl) (by kernel_rfl) (by kernel_rfl) (fun _ _ _ h => h) rfl (q_load (i := 0) rfl rfl rfl Try.isAgg22) ?_
    refine ah_take 8 (fun w9 hs => (hs.tail 1 rfl)) rfl rfl rfl (by kernel_rfl) (by kernel_rfl) (by kernel_rfl) (fun _ _ _ h => h) rfl (q_lenS rfl Try.runUnderlying22) ?_
    refine ah_three 1 5 9 rfl rfl rfl  (by kernel_rfl) (fun hok1 hcl1 => ?_) (fun hok1 hcl1 => ?_) (fun hok1 hcl1 => ?_)
    · refine al_callS Try.call33 (.cons rfl .nil) rfl rfl (fun w2 hs2 => ?_)
      refine (rquiet_ok R M _ (hM.below hs2.below) hc).mono ?_
      rintro e u2 ⟨q1, q2, q3, rfl, hb_2⟩
      refine ⟨_, _, _, rfl, hs2.gift hb_2, ?_⟩
      refine al_end (ah_back hok1 hcl1 (fun w9 hs => (hs.tail 4 rfl)) ?_)
      refine ah_two 5 9 rfl rfl  (by kernel_rfl) (fun hok2 hcl2 => ?_) (fun hok2 hcl2 => ?_)
      · refine al_makeInts (n := R.la) (z := (.int .i64 0)) (bytes := 8) rfl rfl rfl Try.underlying30 (by kernel_rfl) rfl (by omega) (by decide) rfl rfl ?_
        intro b3
        refine al_end (ah_back hok2 hcl2 (fun w9 hs => (hs.tail 5 rfl)) ?_)
        refine ah_one 9 rfl (by kernel_rfl) (fun hok3 hcl3 => ?_)
        refine al_makeInts (n := R.la) (z := (.bool false)) (bytes := 1) rfl rfl rfl Try.underlying33 (by kernel_rfl) rfl (by omega) (by decide) rfl rfl ?_
        intro b4
        refine al_end (ah_back hok3 hcl3 (fun w9 hs => (hs.tail 6 rfl)) ?_)
        refine ah_take 10 (fun w9 hs => (hs.tail 6 rfl)) rfl rfl rfl (by kernel_rfl) (by kernel_rfl) (by kernel_rfl) (fun _ _ _ h => h) rfl (q_build (.cons rfl (.cons rfl (.cons rfl .nil))) (kir_bl_apiState_1_2_3 _ _ _ _ _ rfl rfl)) ?_
        refine ah_one 11 rfl (by kernel_rfl) (fun hok4 hcl4 => ?_)
        refine al_storeAll (i := 5) rfl rfl rfl rfl Try.sizeOf35 rfl rfl .k5 rfl ?_
        refine al_end (ah_back hok4 hcl4 (fun w9 hs => (hs.tail 6 rfl)) ?_)
        refine ah_one 12 rfl (by kernel_rfl) (fun hok5 hcl5 => ?_)
        refine al_q (q_assign rfl) rfl rfl rfl ?_
        refine al_end (ah_last (by kernel_rfl) ?_)
        refine aq_then ?_
        refine ac_ret ?_
        refine retR Try.results12 (.agg (i := 5) rfl rfl Try.isAgg35 Try.sizeOf35 rfl (.tmp rfl .nil)) .two (fun w9 hs => ?_)
        refine OutS.ok ⟨beginR R M q1 q2 q3 b3 b4, rfl, ?_, ?_, hs.below⟩
        · exact begin_isS n1 n2 (by omega) (by omega) n7.2 (isT_box0 (n := 1) (enc := intCells) (fun _ => rfl) (hs.at 2 rfl) (flatZ R.la) (by simp [zerosI])) (isT_box0 (n := 1) (enc := intCells) (fun _ => rfl) (hs.at 3 rfl) (flatZ R.lb) (by simp [zerosI])) (isT_box0 (n := 1) (enc := intCells) (fun _ => rfl) (hs.at 4 rfl) (flatZ (cellN M)) (by simp [zerosI])) (isT_box0 (n := 1) (enc := intCells) (fun _ => rfl) (hs.at 1 rfl) (flatZ R.la) (by simp [zerosI])) (isT_box0 (n := 1) (enc := boolCells) (fun _ => rfl) (hs.at 0 rfl) (flatB R.la) (by simp))
        · exact ⟨hs.new 2 rfl, hs.new 3 rfl, hs.new 4 rfl, hs.new 1 rfl, hs.new 0 rfl⟩
      · refine al_makeInts (n := R.la) (z := (.bool false)) (bytes := 1) rfl rfl rfl Try.underlying33 (by kernel_rfl) rfl (by omega) (by decide) rfl rfl ?_
        intro b5
        refine al_end (ah_back hok2 hcl2 (fun w9 hs => (hs.tail 5 rfl)) ?_)
        refine ah_one 5 rfl (by kernel_rfl) (fun hok6 hcl6 => ?_)
        refine al_makeInts (n := R.la) (z := (.int .i64 0)) (bytes := 8) rfl rfl rfl Try.underlying30 (by kernel_rfl) rfl (by omega) (by decide) rfl rfl ?_
        intro b6
        refine al_end (ah_back hok6 hcl6 (fun w9 hs => (hs.tail 6 rfl)) ?_)
        refine ah_take 10 (fun w9 hs => (hs.tail 6 rfl)) rfl rfl rfl (by kernel_rfl) (by kernel_rfl) (by kernel_rfl) (fun _ _ _ h => h) rfl (q_build (.cons rfl (.cons rfl (.cons rfl .nil))) (kir_bl_apiState_1_2_3 _ _ _ _ _ rfl rfl)) ?_
        refine ah_one 11 rfl (by kernel_rfl) (fun hok7 hcl7 => ?_)
        refine al_storeAll (i := 5) rfl rfl rfl rfl Try.sizeOf35 rfl rfl .k5 rfl ?_
        refine al_end (ah_back hok7 hcl7 (fun w9 hs => (hs.tail 6 rfl)) ?_)
        refine ah_one 12 rfl (by kernel_rfl) (fun hok8 hcl8 => ?_)
        refine al_q (q_assign rfl) rfl rfl rfl ?_
        refine al_end (ah_last (by kernel_rfl) ?_)
        refine aq_then ?_
        refine ac_ret ?_
        refine retR Try.results12 (.agg (i := 5) rfl rfl Try.isAgg35 Try.sizeOf35 rfl (.tmp rfl .nil)) .two (fun w9 hs => ?_)
        refine OutS.ok ⟨beginR R M q1 q2 q3 b6 b5, rfl, ?_, ?_, hs.below⟩
        · exact begin_isS n1 n2 (by omega) (by omega) n7.2 (isT_box0 (n := 1) (enc := intCells) (fun _ => rfl) (hs.at 2 rfl) (flatZ R.la) (by simp [zerosI])) (isT_box0 (n := 1) (enc := intCells) (fun _ => rfl) (hs.at 3 rfl) (flatZ R.lb) (by simp [zerosI])) (isT_box0 (n := 1) (enc := intCells) (fun _ => rfl) (hs.at 4 rfl) (flatZ (cellN M)) (by simp [zerosI])) (isT_box0 (n := 1) (enc := intCells) (fun _ => rfl) (hs.at 0 rfl) (flatZ R.la) (by simp [zerosI])) (isT_box0 (n := 1) (enc := boolCells) (fun _ => rfl) (hs.at 1 rfl) (flatB R.la) (by simp))
        · exact ⟨hs.new 2 rfl, hs.new 3 rfl, hs.new 4 rfl, hs.new 0 rfl, hs.new 1 rfl⟩
    · refine al_makeInts (n := R.la) (z := (.int .i64 0)) (bytes := 8) rfl rfl rfl Try.underlying30 (by kernel_rfl) rfl (by omega) (by decide) rfl rfl ?_
      intro b7
      refine al_end (ah_back hok1 hcl1 (fun w9 hs => (hs.tail 2 rfl)) ?_)
      refine ah_two 1 9 rfl rfl  (by kernel_rfl) (fun hok9 hcl9 => ?_) (fun hok9 hcl9 => ?_)
      · refine al_callS Try.call33 (.cons rfl .nil) rfl rfl (fun w3 hs3 => ?_)
        refine (rquiet_ok R M _ (hM.below hs3.below) hc).mono ?_
        rintro e u3 ⟨q1, q2, q3, rfl, hb_3⟩
        refine ⟨_, _, _, rfl, hs3.gift hb_3, ?_⟩
        refine al_end (ah_back hok9 hcl9 (fun w9 hs => (hs.tail 5 rfl)) ?_)
        refine ah_one 9 rfl (by kernel_rfl) (fun hok10 hcl10 => ?_)
        refine al_makeInts (n := R.la) (z := (.bool false)) (bytes := 1) rfl rfl rfl Try.underlying33 (by kernel_rfl) rfl (by omega) (by decide) rfl rfl ?_
        intro b8
        refine al_end (ah_back hok10 hcl10 (fun w9 hs => (hs.tail 6 rfl)) ?_)
        refine ah_take 10 (fun w9 hs => (hs.tail 6 rfl)) rfl rfl rfl (by kernel_rfl) (by kernel_rfl) (by kernel_rfl) (fun _ _ _ h => h) rfl (q_build (.cons rfl (.cons rfl (.cons rfl .nil))) (kir_bl_apiState_1_2_3 _ _ _ _ _ rfl rfl)) ?_
        refine ah_one 11 rfl (by kernel_rfl) (fun hok11 hcl11 => ?_)
        refine al_storeAll (i := 5) rfl rfl rfl rfl Try.sizeOf35 rfl rfl .k5 rfl ?_
        refine al_end (ah_back hok11 hcl11 (fun w9 hs => (hs.tail 6 rfl)) ?_)
        refine ah_one 12 rfl (by kernel_rfl) (fun hok12 hcl12 => ?_)
        refine al_q (q_assign rfl) rfl rfl rfl ?_
        refine al_end (ah_last (by kernel_rfl) ?_)
        refine aq_then ?_
        refine ac_ret ?_
        refine retR Try.results12 (.agg (i := 5) rfl rfl Try.isAgg35 Try.sizeOf35 rfl (.tmp rfl .nil)) .two (fun w9 hs => ?_)
        refine OutS.ok ⟨beginR R M q1 q2 q3 b7 b8, rfl, ?_, ?_, hs.below⟩
        · exact begin_isS n1 n2 (by omega) (by omega) n7.2 (isT_box0 (n := 1) (enc := intCells) (fun _ => rfl) (hs.at 1 rfl) (flatZ R.la) (by simp [zerosI])) (isT_box0 (n := 1) (enc := intCells) (fun _ => rfl) (hs.at 2 rfl) (flatZ R.lb) (by simp [zerosI])) (isT_box0 (n := 1) (enc := intCells) (fun _ => rfl) (hs.at 3 rfl) (flatZ (cellN M)) (by simp [zerosI])) (isT_box0 (n := 1) (enc := intCells) (fun _ => rfl) (hs.at 4 rfl) (flatZ R.la) (by simp [zerosI])) (isT_box0 (n := 1) (enc := boolCells) (fun _ => rfl) (hs.at 0 rfl) (flatB R.la) (by simp))
        · exact ⟨hs.new 1 rfl, hs.new 2 rfl, hs.new 3 rfl, hs.new 4 rfl, hs.new 0 rfl⟩
      · refine al_makeInts (n := R.la) (z := (.bool false)) (bytes := 1) rfl rfl rfl Try.underlying33 (by kernel_rfl) rfl (by omega) (by decide) rfl rfl ?_
        intro b9
        refine al_end (ah_back hok9 hcl9 (fun w9 hs => (hs.tail 3 rfl)) ?_)
        refine ah_one 1 rfl (by kernel_rfl) (fun hok13 hcl13 => ?_)
        refine al_callS Try.call33 (.cons rfl .nil) rfl rfl (fun w4 hs4 => ?_)
        refine (rquiet_ok R M _ (hM.below hs4.below) hc).mono ?_
        rintro e u4 ⟨q1, q2, q3, rfl, hb_4⟩
        refine ⟨_, _, _, rfl, hs4.gift hb_4, ?_⟩
        refine al_end (ah_back hok13 hcl13 (fun w9 hs => (hs.tail 6 rfl)) ?_)
        refine ah_take 10 (fun w9 hs => (hs.tail 6 rfl)) rfl rfl rfl (by kernel_rfl) (by kernel_rfl) (by kernel_rfl) (fun _ _ _ h => h) rfl (q_build (.cons rfl (.cons rfl (.cons rfl .nil))) (kir_bl_apiState_1_2_3 _ _ _ _ _ rfl rfl)) ?_
        refine ah_one 11 rfl (by kernel_rfl) (fun hok14 hcl14 => ?_)
        refine al_storeAll (i := 5) rfl rfl rfl rfl Try.sizeOf35 rfl rfl .k5 rfl ?_
        refine al_end (ah_back hok14 hcl14 (fun w9 hs => (hs.tail 6 rfl)) ?_)
        refine ah_one 12 rfl (by kernel_rfl) (fun hok15 hcl15 => ?_)
        refine al_q (q_assign rfl) rfl rfl rfl ?_
        refine al_end (ah_last (by kernel_rfl) ?_)
        refine aq_then ?_
        refine ac_ret ?_
        refine retR Try.results12 (.agg (i := 5) rfl rfl Try.isAgg35 Try.sizeOf35 rfl (.tmp rfl .nil)) .two (fun w9 hs => ?_)
        refine OutS.ok ⟨beginR R M q1 q2 q3 b7 b9, rfl, ?_, ?_, hs.below⟩
        · exact begin_isS n1 n2 (by omega) (by omega) n7.2 (isT_box0 (n := 1) (enc := intCells) (fun _ => rfl) (hs.at 0 rfl) (flatZ R.la) (by simp [zerosI])) (isT_box0 (n := 1) (enc := intCells) (fun _ => rfl) (hs.at 1 rfl) (flatZ R.lb) (by simp [zerosI])) (isT_box0 (n := 1) (enc := intCells) (fun _ => rfl) (hs.at 2 rfl) (flatZ (cellN M)) (by simp [zerosI])) (isT_box0 (n := 1) (enc := intCells) (fun _ => rfl) (hs.at 4 rfl) (flatZ R.la) (by simp [zerosI])) (isT_box0 (n := 1) (enc := boolCells) (fun _ => rfl) (hs.at 3 rfl) (flatB R.la) (by simp))
        · exact ⟨hs.new 0 rfl, hs.new 1 rfl, hs.new 2 rfl, hs.new 4 rfl, hs.new 3 rfl⟩
    · refine al_makeInts (n := R.la) (z := (.bool false)) (bytes := 1) rfl rfl rfl Try.underlying33 (by kernel_rfl) rfl (by omega) (by decide) rfl rfl ?_
      intro b10
      refine al_end (ah_back hok1 hcl1 (fun w9 hs => (hs.tail 2 rfl)) ?_)
      refine ah_two 1 5 rfl rfl  (by kernel_rfl) (fun hok16 hcl16 => ?_) (fun hok16 hcl16 => ?_)
      · refine al_callS Try.call33 (.cons rfl .nil) rfl rfl (fun w5 hs5 => ?_)
        refine (rquiet_ok R M _ (hM.below hs5.below) hc).mono ?_
        rintro e u5 ⟨q1, q2, q3, rfl, hb_5⟩
        refine ⟨_, _, _, rfl, hs5.gift hb_5, ?_⟩
        refine al_end (ah_back hok16 hcl16 (fun w9 hs => (hs.tail 5 rfl)) ?_)
        refine ah_one 5 rfl (by kernel_rfl) (fun hok17 hcl17 => ?_)
        refine al_makeInts (n := R.la) (z := (.int .i64 0)) (bytes := 8) rfl rfl rfl Try.underlying30 (by kernel_rfl) rfl (by omega) (by decide) rfl rfl ?_
        intro b11
        refine al_end (ah_back hok17 hcl17 (fun w9 hs => (hs.tail 6 rfl)) ?_)
        refine ah_take 10 (fun w9 hs => (hs.tail 6 rfl)) rfl rfl rfl (by kernel_rfl) (by kernel_rfl) (by kernel_rfl) (fun _ _ _ h => h) rfl (q_build (.cons rfl (.cons rfl (.cons rfl .nil))) (kir_bl_apiState_1_2_3 _ _ _ _ _ rfl rfl)) ?_
        refine ah_one 11 rfl (by kernel_rfl) (fun hok18 hcl18 => ?_)
        refine al_storeAll (i := 5) rfl rfl rfl rfl Try.sizeOf35 rfl rfl .k5 rfl ?_
        refine al_end (ah_back hok18 hcl18 (fun w9 hs => (hs.tail 6 rfl)) ?_)
        refine ah_one 12 rfl (by kernel_rfl) (fun hok19 hcl19 => ?_)
        refine al_q (q_assign rfl) rfl rfl rfl ?_
        refine al_end (ah_last (by kernel_rfl) ?_)
        refine aq_then ?_
        refine ac_ret ?_
        refine retR Try.results12 (.agg (i := 5) rfl rfl Try.isAgg35 Try.sizeOf35 rfl (.tmp rfl .nil)) .two (fun w9 hs => ?_)
        refine OutS.ok ⟨beginR R M q1 q2 q3 b11 b10, rfl, ?_, ?_, hs.below⟩
        · exact begin_isS n1 n2 (by omega) (by omega) n7.2 (isT_box0 (n := 1) (enc := intCells) (fun _ => rfl) (hs.at 1 rfl) (flatZ R.la) (by simp [zerosI])) (isT_box0 (n := 1) (enc := intCells) (fun _ => rfl) (hs.at 2 rfl) (flatZ R.lb) (by simp [zerosI])) (isT_box0 (n := 1) (enc := intCells) (fun _ => rfl) (hs.at 3 rfl) (flatZ (cellN M)) (by simp [zerosI])) (isT_box0 (n := 1) (enc := intCells) (fun _ => rfl) (hs.at 0 rfl) (flatZ R.la) (by simp [zerosI])) (isT_box0 (n := 1) (enc := boolCells) (fun _ => rfl) (hs.at 4 rfl) (flatB R.la) (by simp))
        · exact ⟨hs.new 1 rfl, hs.new 2 rfl, hs.new 3 rfl, hs.new 0 rfl, hs.new 4 rfl⟩
      · refine al_makeInts (n := R.la) (z := (.int .i64 0)) (bytes := 8) rfl rfl rfl Try.underlying30 (by kernel_rfl) rfl (by omega) (by decide) rfl rfl ?_
        intro b12
        refine al_end (ah_back hok16 hcl16 (fun w9 hs => (hs.tail 3 rfl)) ?_)
        refine ah_one 1 rfl (by kernel_rfl) (fun hok20 hcl20 => ?_)
        refine al_callS Try.call33 (.cons rfl .nil) rfl rfl (fun w6 hs6 => ?_)
        refine (rquiet_ok R M _ (hM.below hs6.below) hc).mono ?_
        rintro e u6 ⟨q1, q2, q3, rfl, hb_6⟩
        refine ⟨_, _, _, rfl, hs6.gift hb_6, ?_⟩
        refine al_end (ah_back hok20 hcl20 (fun w9 hs => (hs.tail 6 rfl)) ?_)
        refine ah_take 10 (fun w9 hs => (hs.tail 6 rfl)) rfl rfl rfl (by kernel_rfl) (by kernel_rfl) (by kernel_rfl) (fun _ _ _ h => h) rfl (q_build (.cons rfl (.cons rfl (.cons rfl .nil))) (kir_bl_apiState_1_2_3 _ _ _ _ _ rfl rfl)) ?_
        refine ah_one 11 rfl (by kernel_rfl) (fun hok21 hcl21 => ?_)
        refine al_storeAll (i := 5) rfl rfl rfl rfl Try.sizeOf35 rfl rfl .k5 rfl ?_
        refine al_end (ah_back hok21 hcl21 (fun w9 hs => (hs.tail 6 rfl)) ?_)
        refine ah_one 12 rfl (by kernel_rfl) (fun hok22 hcl22 => ?_)
        refine al_q (q_assign rfl) rfl rfl rfl ?_
        refine al_end (ah_last (by kernel_rfl) ?_)
        refine aq_then ?_
        refine ac_ret ?_
        refine retR Try.results12 (.agg (i := 5) rfl rfl Try.isAgg35 Try.sizeOf35 rfl (.tmp rfl .nil)) .two (fun w9 hs => ?_)
        refine OutS.ok ⟨beginR R M q1 q2 q3 b12 b10, rfl, ?_, ?_, hs.below⟩
        · exact begin_isS n1 n2 (by omega) (by omega) n7.2 (isT_box0 (n := 1) (enc := intCells) (fun _ => rfl) (hs.at 0 rfl) (flatZ R.la) (by simp [zerosI])) (isT_box0 (n := 1) (enc := intCells) (fun _ => rfl) (hs.at 1 rfl) (flatZ R.lb) (by simp [zerosI])) (isT_box0 (n := 1) (enc := intCells) (fun _ => rfl) (hs.at 2 rfl) (flatZ (cellN M)) (by simp [zerosI])) (isT_box0 (n := 1) (enc := intCells) (fun _ => rfl) (hs.at 3 rfl) (flatZ R.la) (by simp [zerosI])) (isT_box0 (n := 1) (enc := boolCells) (fun _ => rfl) (hs.at 4 rfl) (flatB R.la) (by simp))
        · exact ⟨hs.new 0 rfl, hs.new 1 rfl, hs.new 2 rfl, hs.new 3 rfl, hs.new 4 rfl⟩

theorem kir_bl_apiState_ : ∀ w, (Instr.build 35 #[]).run Try.prog w = .ok (.agg #[(.int .i64 0), (.slice none 0 0), (.slice none 0 0), (.slice none 0 0), (.slice none 0 0), (.slice none 0 0)]) w := by
  intro w; simp [Instr.build, Instr.fill, cells_agg, Try.runUnderlying35, Try.zeroValue35, Try.sizeOf3, Try.sizeOf30, Try.sizeOf32, Try.sizeOf33]

set_option maxRecDepth 100000 in
theorem rbegin_bad (R : MachR) (M : MachD) (w : World) (hM : IsM w R M) (hc : checkC M ≠ 0) : Calls Try.prog 12 #[(.agg (machCells R M))] w (Ret (.tuple #[zeroS, .int .i64 1]) w) := by
  refine calls_ax (vs := [(.agg (machCells R M))]) Try.func12 rfl rfl ?_
  refine ac_seq ?_
  refine ac_region ?_
  refine al_new (fun b => .pointer (some ⟨b, 0, none⟩)) (r_box rfl rfl) rfl rfl rfl ?_
  intro b1
  refine al_new (fun b => .pointer (some ⟨b, 0, none⟩)) (r_alloc Try.zeroValue35 rfl) rfl rfl rfl ?_
  intro b2
  refine al_q (q_assign rfl) rfl rfl rfl ?_
  refine al_end ?_
  refine aq_then ?_
  refine ac_seq ?_
  refine ac_seq ?_
  refine ac_region ?_
  refine al_q (q_loadAll (i := 1) rfl rfl Try.isAgg29 Try.sizeOf29 rfl) rfl rfl rfl ?_
  refine al_call Try.call32 (.cons rfl .nil) rfl rfl (fun w1 hs1 => ?_)
  refine (rcheck_any R M _ (hM.below hs1.below)).mono ?_
  rintro e u1 ⟨rfl, hb_1⟩
  refine ⟨_, rfl, hb_1, ?_⟩
  clear hs1
  refine al_q (q_neq rfl rfl) rfl rfl rfl ?_
  refine al_end ?_
  refine aq_then ?_
  refine ac_cond rfl (fun h1 => ?_) (fun h1 => ?_)
  · skip
    refine ac_seq ?_
    refine ac_region ?_
    refine al_q (q_build .nil (kir_bl_apiState_)) rfl rfl rfl ?_
    refine al_storeAll (i := 0) rfl rfl rfl rfl Try.sizeOf35 rfl rfl .k0 rfl ?_
    refine al_q (q_assign rfl) rfl rfl rfl ?_
    refine al_end ?_
    refine aq_then ?_
    refine ac_ret ?_
    refine aq_thenR ?_
    refine retR Try.results12 (.agg (i := 0) rfl rfl Try.isAgg35 Try.sizeOf35 rfl (.tmp rfl .nil)) .two (fun w9 hs => ?_)
    exact ⟨rfl, hs.below⟩
  · exfalso; simp at h1; exact hc h1

theorem rbegin_any (R : MachR) (M : MachD) (w : World) (hM : IsM w R M) : Calls Try.prog 12 #[.agg (machCells R M)] w (OutS w (beginE M) (beginD M)) := by
  unfold beginE
  split
  · rename_i h; exact rbegin_ok R M w hM h
  · rename_i h; exact (rbegin_bad R M w hM h).mono fun e w' h => OutS.bad (by decide) h
def sameS (S T : StD) : Prop := S.tick = T.tick ∧ (S.C.coils = T.C.coils ∧ S.C.shells = T.C.shells ∧ S.C.plasma = T.C.plasma) ∧ S.heat = T.heat ∧ S.trip = T.trip
instance (S T : StD) : Decidable (sameS S T) := inferInstanceAs (Decidable (_ ∧ (_ ∧ _ ∧ _) ∧ _ ∧ _))
theorem same_refl (S : StD) : decide (sameS S S) = true := decide_eq_true ⟨rfl, ⟨rfl, rfl, rfl⟩, rfl, rfl⟩
theorem listB_ext {l m : List Bool} (hl : l.length = m.length) (h : ∀ j, j < l.length → bA l j = bA m j) : l = m := by
  rw [listB_lst l, listB_lst m, hl]
  exact lst_ext fun k hk => h k (by omega)
theorem sameC_eq {S T : StD} (h : (decide (S.C.coils = T.C.coils) && (decide (S.C.shells = T.C.shells) && decide (S.C.plasma = T.C.plasma))) = true) : S.C.coils = T.C.coils ∧ S.C.shells = T.C.shells ∧ S.C.plasma = T.C.plasma := by
  simpa only [Bool.and_eq_true, decide_eq_true_eq] using h

set_option maxRecDepth 100000 in
theorem rsameS_any (P Q : StR) (S T : StD) (w : World) (a1 : IsS w P S) (a2 : IsS w Q T) : Calls Try.prog 15 #[(P.v S.tick), (Q.v T.tick)] w (Ret (.bool (decide (sameS S T))) w) := by
  have n1 := a1.trip.1
  have n2 := a2.trip.1
  have n3 := a1.kt
  have n4 := a2.kt
  refine calls_ax (vs := [(P.v S.tick), (Q.v T.tick)]) Try.func15 rfl rfl ?_
  refine ac_seq ?_
  refine ac_region ?_
  refine al_new (fun b => .pointer (some ⟨b, 0, none⟩)) (r_box rfl rfl) rfl rfl rfl ?_
  intro b1
  refine al_new (fun b => .pointer (some ⟨b, 0, none⟩)) (r_box rfl rfl) rfl rfl rfl ?_
  intro b2
  refine al_q (q_assign rfl) rfl rfl rfl ?_
  refine al_end ?_
  refine aq_then ?_
  refine ac_seq ?_
  refine ac_seq ?_
  refine ac_region ?_
  refine al_q (q_fieldAddr 0 rfl Try.runUnderlying35 rfl Try.sizeOf3 (by decide) rfl) rfl rfl rfl ?_
  refine al_q (q_load (i := 1) rfl rfl rfl Try.isAgg3) rfl rfl rfl ?_
  refine al_q (q_fieldAddr 0 rfl Try.runUnderlying35 rfl Try.sizeOf3 (by decide) rfl) rfl rfl rfl ?_
  refine al_q (q_load (i := 0) rfl rfl rfl Try.isAgg3) rfl rfl rfl ?_
  refine al_q (q_neq rfl rfl) rfl rfl rfl ?_
  refine al_q (q_move rfl) rfl rfl rfl ?_
  refine aq_split 11 rfl (fun hb1 => ?_) (fun hb1 => ?_)
  · have v1 : ¬ sameS S T := fun h => by have := h.1; simp at hb1; omega
    refine al_skip rfl rfl rfl ?_
    refine al_skip rfl rfl rfl ?_
    refine al_skip rfl rfl rfl ?_
    refine al_skip rfl rfl rfl ?_
    refine al_skip rfl rfl rfl ?_
    refine al_skip rfl rfl rfl ?_
    refine al_q (q_pickT rfl rfl) rfl rfl rfl ?_
    refine al_q (q_move rfl) rfl rfl rfl ?_
    refine al_skip rfl rfl rfl ?_
    refine al_skip rfl rfl rfl ?_
    refine al_skip rfl rfl rfl ?_
    refine al_skip rfl rfl rfl ?_
    refine al_skip rfl rfl rfl ?_
    refine al_skip rfl rfl rfl ?_
    refine al_q (q_pickT rfl rfl) rfl rfl rfl ?_
    refine al_q (q_move rfl) rfl rfl rfl ?_
    refine al_skip rfl rfl rfl ?_
    refine al_skip rfl rfl rfl ?_
    refine al_skip rfl rfl rfl ?_
    refine al_skip rfl rfl rfl ?_
    refine al_skip rfl rfl rfl ?_
    refine al_skip rfl rfl rfl ?_
    refine al_skip rfl rfl rfl ?_
    refine al_q (q_pickT rfl rfl) rfl rfl rfl ?_
    refine al_end ?_
    refine aq_then ?_
    refine ac_condT rfl ?_
    refine ac_seq ?_
    refine ac_region ?_
    refine al_q (q_assign rfl) rfl rfl rfl ?_
    refine al_end ?_
    refine aq_then ?_
    refine ac_ret ?_
    refine aq_thenR ?_
    refine ret1 Try.results15 rfl (fun w9 hs => ?_)
    rw [decide_eq_false v1]; exact ⟨rfl, hs.below⟩
  · have v1 : S.tick = T.tick := by simpa using hb1
    refine al_q (q_fieldAddr 1 rfl Try.runUnderlying35 rfl Try.sizeOf32 (by decide) rfl) rfl rfl rfl ?_
    refine al_q (q_loadSub (i := 1) rfl rfl Try.isAgg32 Try.sizeOf32 .k1 .k3) rfl rfl rfl ?_
    refine al_q (q_fieldAddr 1 rfl Try.runUnderlying35 rfl Try.sizeOf32 (by decide) rfl) rfl rfl rfl ?_
    refine al_q (q_loadSub (i := 0) rfl rfl Try.isAgg32 Try.sizeOf32 .k1 .k3) rfl rfl rfl ?_
    refine al_call Try.call39 (.cons rfl (.cons rfl .nil)) rfl rfl (fun w1 hs1 => ?_)
    refine (rsameC_any P.Q Q.Q S.C T.C _ (a1.cur.below hs1.below) (a2.cur.below hs1.below)).mono ?_
    rintro e u1 ⟨rfl, hb_1⟩
    refine ⟨_, rfl, hb_1, ?_⟩
    clear hs1
    refine al_q (q_not rfl) rfl rfl rfl ?_
    refine al_q (q_pickF rfl rfl) rfl rfl rfl ?_
    refine al_q (q_move rfl) rfl rfl rfl ?_
    refine aq_split 19 rfl (fun hb2 => ?_) (fun hb2 => ?_)
    · have v2 : ¬ sameS S T := fun h => by have := h.2.1; simp [this] at hb2
      refine al_skip rfl rfl rfl ?_
      refine al_skip rfl rfl rfl ?_
      refine al_skip rfl rfl rfl ?_
      refine al_skip rfl rfl rfl ?_
      refine al_skip rfl rfl rfl ?_
      refine al_skip rfl rfl rfl ?_
      refine al_q (q_pickT rfl rfl) rfl rfl rfl ?_
      refine al_q (q_move rfl) rfl rfl rfl ?_
      refine al_skip rfl rfl rfl ?_
      refine al_skip rfl rfl rfl ?_
      refine al_skip rfl rfl rfl ?_
      refine al_skip rfl rfl rfl ?_
      refine al_skip rfl rfl rfl ?_
      refine al_skip rfl rfl rfl ?_
      refine al_skip rfl rfl rfl ?_
      refine al_q (q_pickT rfl rfl) rfl rfl rfl ?_
      refine al_end ?_
      refine aq_then ?_
      refine ac_condT rfl ?_
      refine ac_seq ?_
      refine ac_region ?_
      refine al_q (q_assign rfl) rfl rfl rfl ?_
      refine al_end ?_
      refine aq_then ?_
      refine ac_ret ?_
      refine aq_thenR ?_
      refine ret1 Try.results15 rfl (fun w9 hs => ?_)
      rw [decide_eq_false v2]; exact ⟨rfl, hs.below⟩
    · have v2 := sameC_eq (show (decide (S.C.coils = T.C.coils) && (decide (S.C.shells = T.C.shells) && decide (S.C.plasma = T.C.plasma))) = true by simpa using hb2)
      refine al_q (q_fieldAddr 4 rfl Try.runUnderlying35 rfl Try.sizeOf30 (by decide) rfl) rfl rfl rfl ?_
      refine al_q (q_load (i := 1) rfl rfl rfl Try.isAgg30) rfl rfl rfl ?_
      refine al_q (q_fieldAddr 4 rfl Try.runUnderlying35 rfl Try.sizeOf30 (by decide) rfl) rfl rfl rfl ?_
      refine al_q (q_load (i := 0) rfl rfl rfl Try.isAgg30) rfl rfl rfl ?_
      refine al_call Try.call40 (.cons rfl (.cons rfl .nil)) rfl rfl (fun w2 hs2 => ?_)
      refine (rsame_any P.H Q.H P.lh P.ch Q.lh Q.ch S.heat T.heat _ (a1.heat.below hs2.below) (a2.heat.below hs2.below) a1.kh a2.kh).mono ?_
      rintro e u2 ⟨rfl, hb_2⟩
      refine ⟨_, rfl, hb_2, ?_⟩
      clear hs2
      refine al_q (q_not rfl) rfl rfl rfl ?_
      refine al_q (q_pickF rfl rfl) rfl rfl rfl ?_
      refine al_q (q_move rfl) rfl rfl rfl ?_
      refine aq_split 27 rfl (fun hb3 => ?_) (fun hb3 => ?_)
      · have v3 : ¬ sameS S T := fun h => by have := h.2.2.1; simp [this] at hb3
        refine al_skip rfl rfl rfl ?_
        refine al_skip rfl rfl rfl ?_
        refine al_skip rfl rfl rfl ?_
        refine al_skip rfl rfl rfl ?_
        refine al_skip rfl rfl rfl ?_
        refine al_skip rfl rfl rfl ?_
        refine al_skip rfl rfl rfl ?_
        refine al_q (q_pickT rfl rfl) rfl rfl rfl ?_
        refine al_end ?_
        refine aq_then ?_
        refine ac_condT rfl ?_
        refine ac_seq ?_
        refine ac_region ?_
        refine al_q (q_assign rfl) rfl rfl rfl ?_
        refine al_end ?_
        refine aq_then ?_
        refine ac_ret ?_
        refine aq_thenR ?_
        refine ret1 Try.results15 rfl (fun w9 hs => ?_)
        rw [decide_eq_false v3]; exact ⟨rfl, hs.below⟩
      · have v3 : S.heat = T.heat := by simpa using hb3
        refine al_q (q_fieldAddr 5 rfl Try.runUnderlying35 rfl Try.sizeOf33 (by decide) rfl) rfl rfl rfl ?_
        refine al_q (q_load (i := 1) rfl rfl rfl Try.isAgg33) rfl rfl rfl ?_
        refine al_q (q_lenS rfl Try.runUnderlying33) rfl rfl rfl ?_
        refine al_q (q_fieldAddr 5 rfl Try.runUnderlying35 rfl Try.sizeOf33 (by decide) rfl) rfl rfl rfl ?_
        refine al_q (q_load (i := 0) rfl rfl rfl Try.isAgg33) rfl rfl rfl ?_
        refine al_q (q_lenS rfl Try.runUnderlying33) rfl rfl rfl ?_
        refine al_q (q_neq rfl rfl) rfl rfl rfl ?_
        refine al_q (q_pickF rfl rfl) rfl rfl rfl ?_
        refine al_end ?_
        refine aq_then ?_
        refine ac_cond rfl (fun h1 => ?_) (fun h1 => ?_)
        · have v4 : ¬ sameS S T := fun h => by have := h.2.2.2; rw [this] at n1; simp at h1; omega
          refine ac_seq ?_
          refine ac_region ?_
          refine al_q (q_assign rfl) rfl rfl rfl ?_
          refine al_end ?_
          refine aq_then ?_
          refine ac_ret ?_
          refine aq_thenR ?_
          refine ret1 Try.results15 rfl (fun w9 hs => ?_)
          rw [decide_eq_false v4]; exact ⟨rfl, hs.below⟩
        · have v4 : P.lt = Q.lt := by simp at h1; omega
          refine ac_skip ?_
          refine aq_then ?_
          refine ac_seq ?_
          refine ac_seq ?_
          refine ac_region ?_
          refine al_q (q_assign rfl) rfl rfl rfl ?_
          refine al_end ?_
          refine aq_then ?_
          refine ac_block ?_
          refine ac_loop (β := Nat) (fun x => x ≤ P.lt ∧ ∀ j, j < x → bA S.trip j = bA T.trip j) (fun x => [(2, (.pointer (some ⟨b1, 0, none⟩))), (3, (.pointer (some ⟨b2, 0, none⟩))), (4, (.bool false)), (5, (.int .i64 (x : Int)))]) (fun _ => _) (fun x => [(b2, _), (b1, _)]) (fun x => P.lt - x) 0 ⟨by omega, fun j h => by omega⟩ ⟨rfl, rfl, rfl, rfl, trivial⟩ (fun w9 hs => hs) (fun x hF1 => ?_)
          refine ac_seq ?_
          refine ac_seq ?_
          refine ac_region ?_
          refine al_q (q_move rfl) rfl rfl rfl ?_
          refine al_q (q_fieldAddr 5 rfl Try.runUnderlying35 rfl Try.sizeOf33 (by decide) rfl) rfl rfl rfl ?_
          refine al_q (q_load (i := 1) rfl rfl rfl Try.isAgg33) rfl rfl rfl ?_
          refine al_q (q_lenS rfl Try.runUnderlying33) rfl rfl rfl ?_
          refine al_q (q_lss rfl rfl) rfl rfl rfl ?_
          refine al_end ?_
          refine aq_then ?_
          refine ac_cond rfl (fun h2 => ?_) (fun h2 => ?_)
          · have hxl : x < P.lt := by have := of_decide_eq_true h2; omega
            obtain ⟨b11, o11, hA1, hlt1, hget1⟩ := a1.trip.2 (by omega)
            have hx1 := bA_get (l := S.trip) (k := x) (by omega)
            obtain ⟨b21, o21, hA2, hlt2, hget2⟩ := a2.trip.2 (by omega)
            have hx2 := bA_get (l := T.trip) (k := x) (by omega)
            refine ac_skip ?_
            refine aq_then ?_
            refine ac_seq ?_
            refine ac_block ?_
            refine ac_seq ?_
            refine ac_draw 10 (by kernel_rfl) (by kernel_rfl) ?_
            refine ah_take 0 (fun w9 hs => hs) rfl rfl rfl (by kernel_rfl) (by kernel_rfl) (by kernel_rfl) (fun _ _ _ h => h) rfl (q_fieldAddr 5 rfl Try.runUnderlying35 rfl Try.sizeOf33 (by decide) rfl) ?_
            refine ah_take 1 (fun w9 hs => hs) rfl rfl rfl (by kernel_rfl) (by kernel_rfl) (by kernel_rfl) (fun _ _ _ h => h) rfl (q_load (i := 1) rfl rfl rfl Try.isAgg33) ?_
            refine ah_take 2 (fun w9 hs => hs) rfl rfl rfl (by kernel_rfl) (by kernel_rfl) (by kernel_rfl) (fun _ _ _ h => h) rfl (q_move rfl) ?_
            refine ah_take 3 (fun w9 hs => hs) rfl rfl rfl (by kernel_rfl) (by kernel_rfl) (by kernel_rfl) (fun _ _ _ h => h) rfl (q_indexAddrA (i := x) (o11 + x * 1 + 0) hA1 rfl rfl rfl (by omega) Try.runUnderlying33 Try.sizeOf4 rfl) ?_
            refine ah_take 4 (fun w9 hs => hs) rfl rfl rfl (by kernel_rfl) (by kernel_rfl) (by kernel_rfl) (fun _ _ _ h => h) rfl (q_loadX rfl Try.isAgg4 (fun w9 hs => (hs.below.cell (p := ⟨_, _, none⟩) hlt1).trans ((hget1 x _ hx1) 0 _ rfl))) ?_
            refine ah_take 5 (fun w9 hs => hs) rfl rfl rfl (by kernel_rfl) (by kernel_rfl) (by kernel_rfl) (fun _ _ _ h => h) rfl (q_fieldAddr 5 rfl Try.runUnderlying35 rfl Try.sizeOf33 (by decide) rfl) ?_
            refine ah_take 6 (fun w9 hs => hs) rfl rfl rfl (by kernel_rfl) (by kernel_rfl) (by kernel_rfl) (fun _ _ _ h => h) rfl (q_load (i := 0) rfl rfl rfl Try.isAgg33) ?_
            refine ah_take 7 (fun w9 hs => hs) rfl rfl rfl (by kernel_rfl) (by kernel_rfl) (by kernel_rfl) (fun _ _ _ h => h) rfl (q_move rfl) ?_
            refine ah_take 8 (fun w9 hs => hs) rfl rfl rfl (by kernel_rfl) (by kernel_rfl) (by kernel_rfl) (fun _ _ _ h => h) rfl (q_indexAddrA (i := x) (o21 + x * 1 + 0) hA2 rfl rfl rfl (by omega) Try.runUnderlying33 Try.sizeOf4 rfl) ?_
            refine ah_take 9 (fun w9 hs => hs) rfl rfl rfl (by kernel_rfl) (by kernel_rfl) (by kernel_rfl) (fun _ _ _ h => h) rfl (q_loadX rfl Try.isAgg4 (fun w9 hs => (hs.below.cell (p := ⟨_, _, none⟩) hlt2).trans ((hget2 x _ hx2) 0 _ rfl))) ?_
            refine ah_take 10 (fun w9 hs => hs) rfl rfl rfl (by kernel_rfl) (by kernel_rfl) (by kernel_rfl) (fun _ _ _ h => h) rfl (q_neqB rfl rfl Try.underlying4) ?_
            refine ah_done (by kernel_rfl) ?_
            refine aq_then ?_
            refine ac_cond rfl (fun h3 => ?_) (fun h3 => ?_)
            · have v5 : ¬ sameS S T := fun h => by have := h.2.2.2; simp [this] at h3
              refine ac_seq ?_
              refine ac_region ?_
              refine al_q (q_assign rfl) rfl rfl rfl ?_
              refine al_end ?_
              refine aq_then ?_
              refine aq_keepL [2, 3, 4, 5, 36, 37, 38, 39, 40, 43, 44, 45, 46, 47, 48, 49, 50, 51, 52, 53] (.cons rfl (.cons rfl (.cons rfl (.cons rfl (.cons rfl (.cons rfl (.cons rfl (.cons rfl (.cons rfl (.cons rfl (.cons rfl (.cons rfl (.cons rfl (.cons rfl (.cons rfl (.cons rfl (.cons rfl (.cons rfl (.cons rfl (.cons rfl .nil)))))))))))))))))))) ?_
              refine ac_ret ?_
              refine aq_inR ?_
              refine aq_thenR ?_
              refine aq_thenR ?_
              refine aq_inR ?_
              refine aq_thenR ?_
              refine ret1 Try.results15 rfl (fun w9 hs => ?_)
              rw [decide_eq_false v5]; exact ⟨rfl, hs.below⟩
            · have v5 : bA S.trip x = bA T.trip x := by simpa using h3
              refine ac_skip ?_
              refine aq_inN ?_
              refine aq_then ?_
              refine ac_region ?_
              refine al_q (q_move rfl) rfl rfl rfl ?_
              refine al_q (q_add rfl rfl (by omega)) rfl rfl rfl ?_
              refine al_q (q_assign rfl) rfl rfl rfl ?_
              refine al_end ?_
              refine aq_then ?_
              skip
              refine aq_round (x + 1) (by omega) ⟨by omega, upTo hF1.2 v5⟩ ⟨rfl, rfl, rfl, rfl, trivial⟩ (fun w9 hs => hs)
          · have hxe : x = P.lt := by have := of_decide_eq_false h2; omega
            refine ac_exit ?_
            refine aq_thenE ?_
            refine aq_thenE ?_
            refine aq_hit ?_
            refine aq_then ?_
            refine ac_seq ?_
            refine ac_region ?_
            refine al_q (q_assign rfl) rfl rfl rfl ?_
            refine al_end ?_
            refine aq_then ?_
            refine ac_ret ?_
            refine ret1 Try.results15 rfl (fun w9 hs => ?_)
            rw [decide_eq_true (show sameS S T from ⟨v1, v2, v3, listB_ext (by omega) (fun j hj => hF1.2 j (by omega))⟩)]; exact ⟨rfl, hs.below⟩

def errV (M : MachD) (S : StD) (heat : List Int) (x : Nat) : Int := if ∃ k ∈ List.range x, restB M S heat k then 8 else 0
theorem errV_yes {M : MachD} {S : StD} {heat : List Int} {x : Nat} (h : restB M S heat x) : errV M S heat (x + 1) = 8 := if_pos ⟨x, List.mem_range.2 (by omega), h⟩
theorem errV_no {M : MachD} {S : StD} {heat : List Int} {x : Nat} (h : ¬ restB M S heat x) : errV M S heat (x + 1) = errV M S heat x := by
  unfold errV
  by_cases g : ∃ k ∈ List.range x, restB M S heat k
  · obtain ⟨k, h1, h2⟩ := g
    exact (if_pos ⟨k, List.mem_range.2 (by have := List.mem_range.1 h1; omega), h2⟩).trans (if_pos ⟨k, h1, h2⟩).symm
  · rw [if_neg g, if_neg]
    rintro ⟨k, h1, h2⟩
    rcases Nat.lt_or_ge k x with g1 | g1
    · exact g ⟨k, List.mem_range.2 g1, h2⟩
    · obtain rfl : k = x := by have := List.mem_range.1 h1; omega
      exact h h2
theorem restF_bad {M : MachD} {S : StD} {heat : List Int} {k : Nat} (hb : restB M S heat k) : restF M S heat k = 0 := by
  unfold restF
  rw [hb.2, Int.tdiv_zero]; split <;> rfl
theorem restF_bd2 {M : MachD} {S : StD} {heat : List Int} (hF : FitS M S) {k : Nat} (hk : k < M.coils.length) (h3 : 0 ≤ iA heat k) : 0 ≤ restF M S heat k ∧ restF M S heat k ≤ 1000002000000000 := by
  by_cases hb : restB M S heat k
  · rw [restF_bad hb]; omega
  · unfold restF
    split
    · omega
    · rename_i h
      have h1 := (cA_ok hF.cur.check hk).cool
      have h2 := hF.heat.2 _ (iA_mem (by rw [hF.heat.1]; exact hk))
      have h4 : (cA M k).cool ≠ 0 := fun e => hb ⟨by omega, e⟩
      have := tdiv_bd (a := iA S.heat k - iA heat k + (cA M k).cool - 1) (B := 1000002000000000) (show 1 ≤ (cA M k).cool by omega) (by omega)
      have : 0 ≤ (iA S.heat k - iA heat k + (cA M k).cool - 1).tdiv (cA M k).cool := Int.tdiv_nonneg (by omega) (by omega)
      omega
theorem all_nn {l : List Int} (h : ∀ j, j < l.length → 0 ≤ iA l j) : ¬ (l.any fun n => decide (n < 0)) = true := by
  intro h1
  obtain ⟨y, hy, h2⟩ := List.any_eq_true.1 h1
  obtain ⟨j, hj, rfl⟩ := List.mem_iff_getElem.1 hy
  have := h j hj
  rw [iA_of (List.getElem?_eq_getElem hj)] at this
  have := of_decide_eq_true h2
  omega

set_option maxRecDepth 100000 in
theorem rrest_any (R : MachR) (M : MachD) (RS : StR) (S : StD) (A : Option Addr) (len cap : Nat) (heat : List Int) (w : World) (hM : IsM w R M) (hS : IsS w RS S) (hI : IsT 1 intCells w A len heat) (hl : len ≤ 1000000000000000) (hh : ∀ y ∈ heat, y ≤ 9223372036854775807) : Calls Try.prog 21 #[(.agg (machCells R M)), (RS.v S.tick), (.slice A len cap)] w (Ret (.tuple #[.int .i64 (restL M S heat).1, .int .i64 (restL M S heat).2]) w) := by
  have n1 := hM.coils.1
  have n4 := hI.1
  refine calls_ax (vs := [(.agg (machCells R M)), (RS.v S.tick), (.slice A len cap)]) Try.func21 rfl rfl ?_
  refine ac_seq ?_
  refine ac_region ?_
  refine al_new (fun b => .pointer (some ⟨b, 0, none⟩)) (r_box rfl rfl) rfl rfl rfl ?_
  intro b1
  refine al_new (fun b => .pointer (some ⟨b, 0, none⟩)) (r_box rfl rfl) rfl rfl rfl ?_
  intro b2
  refine al_q (q_assign rfl) rfl rfl rfl ?_
  refine al_q (q_assign rfl) rfl rfl rfl ?_
  refine al_end ?_
  refine aq_then ?_
  refine ac_seq ?_
  refine ac_seq ?_
  refine ac_region ?_
  refine al_q (q_loadAll (i := 1) rfl rfl Try.isAgg29 Try.sizeOf29 rfl) rfl rfl rfl ?_
  refine al_q (q_loadAll (i := 0) rfl rfl Try.isAgg35 Try.sizeOf35 rfl) rfl rfl rfl ?_
  refine al_call Try.call14 (.cons rfl (.cons rfl .nil)) rfl rfl (fun w1 hs1 => ?_)
  refine (rvalidState_any R M RS S _ (hM.below hs1.below) (hS.below hs1.below)).mono ?_
  rintro e u1 ⟨rfl, hb_1⟩
  refine ⟨_, rfl, hb_1, ?_⟩
  clear hs1
  refine al_q (q_not rfl) rfl rfl rfl ?_
  refine al_q (q_move rfl) rfl rfl rfl ?_
  refine aq_split 17 rfl (fun hb1 => ?_) (fun hb1 => ?_)
  · have hE : restL M S heat = (0, 1) := if_pos (fun h => by rw [h.1] at hb1; cases hb1)
    refine al_skip rfl rfl rfl ?_
    refine al_skip rfl rfl rfl ?_
    refine al_skip rfl rfl rfl ?_
    refine al_skip rfl rfl rfl ?_
    refine al_skip rfl rfl rfl ?_
    refine al_skip rfl rfl rfl ?_
    refine al_q (q_pickT rfl rfl) rfl rfl rfl ?_
    refine al_end ?_
    refine aq_then ?_
    refine ac_condT rfl ?_
    refine ac_seq ?_
    refine ac_region ?_
    refine al_q (q_assign rfl) rfl rfl rfl ?_
    refine al_q (q_assign rfl) rfl rfl rfl ?_
    refine al_end ?_
    refine aq_then ?_
    refine ac_ret ?_
    refine aq_thenR ?_
    refine ret2 Try.results21 rfl rfl (fun w9 hs => ?_)
    rw [hE]; exact ⟨rfl, hs.below⟩
  · have hv : validS M S = true := by simpa using hb1
    have hf := fitS_iff.1 hv
    refine al_q (q_move rfl) rfl rfl rfl ?_
    refine al_q (q_lenS rfl Try.runUnderlying30) rfl rfl rfl ?_
    refine al_q (q_fieldAddr 1 rfl Try.runUnderlying29 rfl Try.sizeOf22 (by decide) rfl) rfl rfl rfl ?_
    refine al_q (q_load (i := 1) rfl rfl rfl Try.isAgg22) rfl rfl rfl ?_
    refine al_q (q_lenS rfl Try.runUnderlying22) rfl rfl rfl ?_
    refine al_q (q_neq rfl rfl) rfl rfl rfl ?_
    refine al_q (q_pickF rfl rfl) rfl rfl rfl ?_
    refine al_end ?_
    refine aq_then ?_
    refine ac_cond rfl (fun h1 => ?_) (fun h1 => ?_)
    · have hE : restL M S heat = (0, 1) := if_pos (fun h => by have := h.2; simp at h1; omega)
      refine ac_seq ?_
      refine ac_region ?_
      refine al_q (q_assign rfl) rfl rfl rfl ?_
      refine al_q (q_assign rfl) rfl rfl rfl ?_
      refine al_end ?_
      refine aq_then ?_
      refine ac_ret ?_
      refine aq_thenR ?_
      refine ret2 Try.results21 rfl rfl (fun w9 hs => ?_)
      rw [hE]; exact ⟨rfl, hs.below⟩
    · have hln : len = R.la := by simp at h1; omega
      have hvl : ¬ ¬ (validS M S = true ∧ heat.length = M.coils.length) := fun h => h ⟨hv, by omega⟩
      have n5 := (sound_of hf.cur.check).coils.1
      have n6 := hf.heat.1
      have n7 := hS.heat.1
      refine ac_skip ?_
      refine aq_then ?_
      refine ac_seq ?_
      refine ac_region ?_
      refine al_q (q_assign rfl) rfl rfl rfl ?_
      refine al_end ?_
      refine aq_then ?_
      refine ac_seq ?_
      refine ac_region ?_
      refine al_q (q_assign rfl) rfl rfl rfl ?_
      refine al_end ?_
      refine aq_then ?_
      refine ac_seq ?_
      refine ac_seq ?_
      refine ac_region ?_
      refine al_q (q_assign rfl) rfl rfl rfl ?_
      refine al_end ?_
      refine aq_then ?_
      refine ac_block ?_
      refine ac_loop (β := Nat) (fun x => x ≤ R.la ∧ 0 ≤ maxTo (restF M S heat) x ∧ maxTo (restF M S heat) x ≤ 1000002000000000 ∧ ∀ j, j < x → 0 ≤ iA heat j) (fun x => [(2, (.slice A len cap)), (3, (.pointer (some ⟨b1, 0, none⟩))), (4, (.pointer (some ⟨b2, 0, none⟩))), (6, (.int .i64 0)), (7, (.int .i64 0)), (8, (.int .i64 (maxTo (restF M S heat) x))), (9, (.int .i64 (errV M S heat x))), (10, (.int .i64 (x : Int)))]) (fun _ => _) (fun x => [(b2, _), (b1, _)]) (fun x => R.la - x) 0 ⟨by omega, by simp [maxTo], by simp [maxTo], fun j h => by omega⟩ ⟨rfl, rfl, rfl, rfl, rfl, rfl, rfl, rfl, trivial⟩ (fun w9 hs => hs) (fun x hF1 => ?_)
      refine ac_seq ?_
      refine ac_seq ?_
      refine ac_region ?_
      refine al_q (q_move rfl) rfl rfl rfl ?_
      refine al_q (q_move rfl) rfl rfl rfl ?_
      refine al_q (q_lenS rfl Try.runUnderlying30) rfl rfl rfl ?_
      refine al_q (q_lss rfl rfl) rfl rfl rfl ?_
      refine al_end ?_
      refine aq_then ?_
      refine ac_cond rfl (fun h2 => ?_) (fun h2 => ?_)
      · have hxl : x < R.la := by have := of_decide_eq_true h2; omega
        obtain ⟨b11, o11, hA1, hlt1, hget1⟩ := hM.coils.2 (by omega)
        have hx1 := cA_get (M := M) (k := x) (by omega)
        obtain ⟨b21, o21, hA2, hlt2, hget2⟩ := hS.heat.2 (by omega)
        have hx2 := iA_get (l := S.heat) (k := x) (by have := hf.heat.1; omega)
        obtain ⟨b31, o31, hA3, hlt3, hget3⟩ := hI.2 (by omega)
        have hx3 := iA_get (l := heat) (k := x) (by omega)
        have q1 := (cA_ok hf.cur.check (k := x) (by omega)).cool
        have q2 := hf.heat.2 _ (List.mem_of_getElem? hx2)
        have q3 := hh _ (List.mem_of_getElem? hx3)
        refine ac_skip ?_
        refine aq_then ?_
        refine ac_seq ?_
        refine ac_block ?_
        refine ac_seq ?_
        refine ac_seq ?_
        refine ac_region ?_
        refine al_q (q_move rfl) rfl rfl rfl ?_
        refine al_q (q_move rfl) rfl rfl rfl ?_
        refine al_q (q_indexAddrA (i := x) (o31 + x * 1 + 0) hA3 rfl rfl rfl (by omega) Try.runUnderlying30 Try.sizeOf3 rfl) rfl rfl rfl ?_
        refine al_q (q_loadX rfl Try.isAgg3 (fun w9 hs => (hs.below.cell (p := ⟨_, _, none⟩) hlt3).trans ((hget3 x _ hx3) 0 _ rfl))) rfl rfl rfl ?_
        refine al_q (q_lss rfl rfl) rfl rfl rfl ?_
        refine al_end ?_
        refine aq_then ?_
        refine ac_cond rfl (fun h3 => ?_) (fun h3 => ?_)
        · have hE : restL M S heat = (0, 7) := by rw [restL, if_neg hvl, if_pos (List.any_eq_true.2 ⟨_, List.mem_of_getElem? hx3, h3⟩)]
          refine ac_seq ?_
          refine ac_region ?_
          refine al_q (q_assign rfl) rfl rfl rfl ?_
          refine al_q (q_assign rfl) rfl rfl rfl ?_
          refine al_end ?_
          refine aq_then ?_
          refine ac_ret ?_
          refine aq_thenR ?_
          refine aq_inR ?_
          refine aq_thenR ?_
          refine aq_thenR ?_
          refine aq_inR ?_
          refine aq_thenR ?_
          refine ret2 Try.results21 rfl rfl (fun w9 hs => ?_)
          rw [hE]; exact ⟨rfl, hs.below⟩
        · have q4 := of_decide_eq_false h3
          have hb2 := (maxTo_bd (by omega) (x + 1) (fun k hk => (restF_bd2 (S := S) (heat := heat) hf (k := k) (by omega) (upTo hF1.2.2.2 (by omega) k hk)).2))
          refine ac_skip ?_
          refine aq_then ?_
          refine ac_seq ?_
          refine ac_draw 10 (by kernel_rfl) (by kernel_rfl) ?_
          refine ah_take 0 (fun w9 hs => hs) rfl rfl rfl (by kernel_rfl) (by kernel_rfl) (by kernel_rfl) (fun _ _ _ h => h) rfl (q_fieldAddr 4 rfl Try.runUnderlying35 rfl Try.sizeOf30 (by decide) rfl) ?_
          refine ah_take 1 (fun w9 hs => hs) rfl rfl rfl (by kernel_rfl) (by kernel_rfl) (by kernel_rfl) (fun _ _ _ h => h) rfl (q_load (i := 0) rfl rfl rfl Try.isAgg30) ?_
          refine ah_take 2 (fun w9 hs => hs) rfl rfl rfl (by kernel_rfl) (by kernel_rfl) (by kernel_rfl) (fun _ _ _ h => h) rfl (q_move rfl) ?_
          refine ah_take 3 (fun w9 hs => hs) rfl rfl rfl (by kernel_rfl) (by kernel_rfl) (by kernel_rfl) (fun _ _ _ h => h) rfl (q_indexAddrA (i := x) (o21 + x * 1 + 0) hA2 rfl rfl rfl (by omega) Try.runUnderlying30 Try.sizeOf3 rfl) ?_
          refine ah_take 4 (fun w9 hs => hs) rfl rfl rfl (by kernel_rfl) (by kernel_rfl) (by kernel_rfl) (fun _ _ _ h => h) rfl (q_loadX rfl Try.isAgg3 (fun w9 hs => (hs.below.cell (p := ⟨_, _, none⟩) hlt2).trans ((hget2 x _ hx2) 0 _ rfl))) ?_
          refine ah_take 5 (fun w9 hs => hs) rfl rfl rfl (by kernel_rfl) (by kernel_rfl) (by kernel_rfl) (fun _ _ _ h => h) rfl (q_move rfl) ?_
          refine ah_take 6 (fun w9 hs => hs) rfl rfl rfl (by kernel_rfl) (by kernel_rfl) (by kernel_rfl) (fun _ _ _ h => h) rfl (q_move rfl) ?_
          refine ah_take 7 (fun w9 hs => hs) rfl rfl rfl (by kernel_rfl) (by kernel_rfl) (by kernel_rfl) (fun _ _ _ h => h) rfl (q_indexAddrA (i := x) (o31 + x * 1 + 0) hA3 rfl rfl rfl (by omega) Try.runUnderlying30 Try.sizeOf3 rfl) ?_
          refine ah_take 8 (fun w9 hs => hs) rfl rfl rfl (by kernel_rfl) (by kernel_rfl) (by kernel_rfl) (fun _ _ _ h => h) rfl (q_loadX rfl Try.isAgg3 (fun w9 hs => (hs.below.cell (p := ⟨_, _, none⟩) hlt3).trans ((hget3 x _ hx3) 0 _ rfl))) ?_
          refine ah_take 9 (fun w9 hs => hs) rfl rfl rfl (by kernel_rfl) (by kernel_rfl) (by kernel_rfl) (fun _ _ _ h => h) rfl (q_sub rfl rfl (by omega)) ?_
          refine ah_one 10 rfl (by kernel_rfl) (fun hok1 hcl1 => ?_)
          refine al_q (q_assign rfl) rfl rfl rfl ?_
          refine al_end (ah_last (by kernel_rfl) ?_)
          refine aq_then ?_
          refine ac_seq ?_
          refine ac_seq ?_
          refine ac_region ?_
          refine al_q (q_move rfl) rfl rfl rfl ?_
          refine al_q (q_leq rfl rfl) rfl rfl rfl ?_
          refine al_end ?_
          refine aq_then ?_
          refine ac_cond rfl (fun h4 => ?_) (fun h4 => ?_)
          · have g4 := of_decide_eq_true h4
            have hval : (maxTo (restF M S heat) x) = maxTo (restF M S heat) (x + 1) := by simp only [maxTo]; rw [show restF M S heat x = 0 from if_pos (by omega)]; omega
            have herr := errV_no (M := M) (S := S) (heat := heat) (x := x) (fun h => by have := h.1; omega)
            refine ac_exit ?_
            refine aq_thenE ?_
            refine aq_hit ?_
            refine aq_then ?_
            refine ac_region ?_
            refine al_q (q_move rfl) rfl rfl rfl ?_
            refine al_q (q_add rfl rfl (by omega)) rfl rfl rfl ?_
            refine al_q (q_assign rfl) rfl rfl rfl ?_
            refine al_end ?_
            refine aq_then ?_
            skip
            refine aq_round (x + 1) (by omega) ⟨by omega, hb2.1, hb2.2, upTo hF1.2.2.2 (by omega)⟩ ⟨rfl, rfl, rfl, rfl, rfl, (by rw [← hval]; rfl), (by rw [herr]; rfl), rfl, trivial⟩ (fun w9 hs => hs)
          · have g4 := of_decide_eq_false h4
            refine ac_skip ?_
            refine aq_then ?_
            refine ac_seq ?_
            refine ac_seq ?_
            refine ac_region ?_
            refine al_q (q_fieldAddr 1 rfl Try.runUnderlying29 rfl Try.sizeOf22 (by decide) rfl) rfl rfl rfl ?_
            refine al_q (q_load (i := 1) rfl rfl rfl Try.isAgg22) rfl rfl rfl ?_
            refine al_q (q_move rfl) rfl rfl rfl ?_
            refine al_q (q_indexAddrA (i := x) (o11 + x * 8 + 0) hA1 rfl rfl rfl (by omega) Try.runUnderlying22 Try.sizeOf46 rfl) rfl rfl rfl ?_
            refine al_q (q_fieldAddr (o11 + x * 8 + 7) rfl Try.runUnderlying46 rfl Try.sizeOf3 (by decide) rfl) rfl rfl rfl ?_
            refine al_q (q_loadX rfl Try.isAgg3 (fun w9 hs => (hs.below.cell (p := ⟨_, _, none⟩) hlt1).trans ((hget1 x _ hx1) 7 _ rfl))) rfl rfl rfl ?_
            refine al_q (q_eql rfl rfl) rfl rfl rfl ?_
            refine al_end ?_
            refine aq_then ?_
            refine ac_cond rfl (fun h5 => ?_) (fun h5 => ?_)
            · have g5 : (cA M x).cool = 0 := by simpa using h5
              have hbx : restB M S heat x := ⟨by omega, g5⟩
              have hval : (maxTo (restF M S heat) x) = maxTo (restF M S heat) (x + 1) := by simp only [maxTo]; rw [restF_bad hbx]; omega
              have herr := errV_yes hbx
              refine ac_seq ?_
              refine ac_region ?_
              refine al_q (q_assign rfl) rfl rfl rfl ?_
              refine al_end ?_
              refine aq_then ?_
              refine ac_exit ?_
              refine aq_thenE ?_
              refine aq_hit ?_
              refine aq_then ?_
              refine ac_region ?_
              refine al_q (q_move rfl) rfl rfl rfl ?_
              refine al_q (q_add rfl rfl (by omega)) rfl rfl rfl ?_
              refine al_q (q_assign rfl) rfl rfl rfl ?_
              refine al_end ?_
              refine aq_then ?_
              skip
              refine aq_round (x + 1) (by omega) ⟨by omega, hb2.1, hb2.2, upTo hF1.2.2.2 (by omega)⟩ ⟨rfl, rfl, rfl, rfl, rfl, (by rw [← hval]; rfl), (by rw [herr]; rfl), rfl, trivial⟩ (fun w9 hs => hs)
            · have g5 : (cA M x).cool ≠ 0 := by simpa using h5
              have herr := errV_no (M := M) (S := S) (heat := heat) (x := x) (fun h => g5 h.2)
              have hfx : restF M S heat x = ((iA S.heat x - iA heat x + (cA M x).cool - 1).tdiv (cA M x).cool) := if_neg (by omega)
              refine ac_skip ?_
              refine aq_then ?_
              refine ac_seq ?_
              refine ac_draw 16 (by kernel_rfl) (by kernel_rfl) ?_
              refine ah_take 0 (fun w9 hs => hs) rfl rfl rfl (by kernel_rfl) (by kernel_rfl) (by kernel_rfl) (fun _ _ _ h => h) rfl (q_move rfl) ?_
              refine ah_take 1 (fun w9 hs => hs) rfl rfl rfl (by kernel_rfl) (by kernel_rfl) (by kernel_rfl) (fun _ _ _ h => h) rfl (q_fieldAddr 1 rfl Try.runUnderlying29 rfl Try.sizeOf22 (by decide) rfl) ?_
              refine ah_take 2 (fun w9 hs => hs) rfl rfl rfl (by kernel_rfl) (by kernel_rfl) (by kernel_rfl) (fun _ _ _ h => h) rfl (q_load (i := 1) rfl rfl rfl Try.isAgg22) ?_
              refine ah_take 3 (fun w9 hs => hs) rfl rfl rfl (by kernel_rfl) (by kernel_rfl) (by kernel_rfl) (fun _ _ _ h => h) rfl (q_move rfl) ?_
              refine ah_take 4 (fun w9 hs => hs) rfl rfl rfl (by kernel_rfl) (by kernel_rfl) (by kernel_rfl) (fun _ _ _ h => h) rfl (q_indexAddrA (i := x) (o11 + x * 8 + 0) hA1 rfl rfl rfl (by omega) Try.runUnderlying22 Try.sizeOf46 rfl) ?_
              refine ah_take 5 (fun w9 hs => hs) rfl rfl rfl (by kernel_rfl) (by kernel_rfl) (by kernel_rfl) (fun _ _ _ h => h) rfl (q_fieldAddr (o11 + x * 8 + 7) rfl Try.runUnderlying46 rfl Try.sizeOf3 (by decide) rfl) ?_
              refine ah_take 6 (fun w9 hs => hs) rfl rfl rfl (by kernel_rfl) (by kernel_rfl) (by kernel_rfl) (fun _ _ _ h => h) rfl (q_loadX rfl Try.isAgg3 (fun w9 hs => (hs.below.cell (p := ⟨_, _, none⟩) hlt1).trans ((hget1 x _ hx1) 7 _ rfl))) ?_
              refine ah_take 7 (fun w9 hs => hs) rfl rfl rfl (by kernel_rfl) (by kernel_rfl) (by kernel_rfl) (fun _ _ _ h => h) rfl (q_add rfl rfl (by omega)) ?_
              refine ah_take 8 (fun w9 hs => hs) rfl rfl rfl (by kernel_rfl) (by kernel_rfl) (by kernel_rfl) (fun _ _ _ h => h) rfl (q_sub rfl rfl (by omega)) ?_
              refine ah_take 9 (fun w9 hs => hs) rfl rfl rfl (by kernel_rfl) (by kernel_rfl) (by kernel_rfl) (fun _ _ _ h => h) rfl (q_fieldAddr 1 rfl Try.runUnderlying29 rfl Try.sizeOf22 (by decide) rfl) ?_
              refine ah_take 10 (fun w9 hs => hs) rfl rfl rfl (by kernel_rfl) (by kernel_rfl) (by kernel_rfl) (fun _ _ _ h => h) rfl (q_load (i := 1) rfl rfl rfl Try.isAgg22) ?_
              refine ah_take 11 (fun w9 hs => hs) rfl rfl rfl (by kernel_rfl) (by kernel_rfl) (by kernel_rfl) (fun _ _ _ h => h) rfl (q_move rfl) ?_
              refine ah_take 12 (fun w9 hs => hs) rfl rfl rfl (by kernel_rfl) (by kernel_rfl) (by kernel_rfl) (fun _ _ _ h => h) rfl (q_indexAddrA (i := x) (o11 + x * 8 + 0) hA1 rfl rfl rfl (by omega) Try.runUnderlying22 Try.sizeOf46 rfl) ?_
              refine ah_take 13 (fun w9 hs => hs) rfl rfl rfl (by kernel_rfl) (by kernel_rfl) (by kernel_rfl) (fun _ _ _ h => h) rfl (q_fieldAddr (o11 + x * 8 + 7) rfl Try.runUnderlying46 rfl Try.sizeOf3 (by decide) rfl) ?_
              refine ah_take 14 (fun w9 hs => hs) rfl rfl rfl (by kernel_rfl) (by kernel_rfl) (by kernel_rfl) (fun _ _ _ h => h) rfl (q_loadX rfl Try.isAgg3 (fun w9 hs => (hs.below.cell (p := ⟨_, _, none⟩) hlt1).trans ((hget1 x _ hx1) 7 _ rfl))) ?_
              refine ah_take 15 (fun w9 hs => hs) rfl rfl rfl (by kernel_rfl) (by kernel_rfl) (by kernel_rfl) (fun _ _ _ h => h) rfl (q_quo rfl rfl (by omega)) ?_
              refine ah_one 16 rfl (by kernel_rfl) (fun hok2 hcl2 => ?_)
              refine al_q (q_assign rfl) rfl rfl rfl ?_
              refine al_end (ah_last (by kernel_rfl) ?_)
              refine aq_then ?_
              refine aq_keepL [2, 3, 4, 6, 7, 8, 9, 10, 11, 12, 25, 26, 27, 28, 31, 32, 33, 34, 35, 36, 37, 38, 39, 40, 41, 42, 43, 44, 45, 46, 47, 48, 49, 50, 51, 52, 53, 54, 55, 56, 57, 58, 59, 60, 61, 62, 63, 64, 65, 66, 67, 68, 69, 70] (.cons rfl (.cons rfl (.cons rfl (.cons rfl (.cons rfl (.cons rfl (.cons rfl (.cons rfl (.cons rfl (.cons rfl (.cons rfl (.cons rfl (.cons rfl (.cons rfl (.cons rfl (.cons rfl (.cons rfl (.cons rfl (.cons rfl (.cons rfl (.cons rfl (.cons rfl (.cons rfl (.cons rfl (.cons rfl (.cons rfl (.cons rfl (.cons rfl (.cons rfl (.cons rfl (.cons rfl (.cons rfl (.cons rfl (.cons rfl (.cons rfl (.cons rfl (.cons rfl (.cons rfl (.cons rfl (.cons rfl (.cons rfl (.cons rfl (.cons rfl (.cons rfl (.cons rfl (.cons rfl (.cons rfl (.cons rfl (.cons rfl (.cons rfl (.cons rfl (.cons rfl (.cons rfl (.cons rfl .nil)))))))))))))))))))))))))))))))))))))))))))))))))))))) ?_
              refine ac_seq ?_
              refine ac_region ?_
              refine al_q (q_move rfl) rfl rfl rfl ?_
              refine al_q (q_move rfl) rfl rfl rfl ?_
              refine al_q (q_gtr rfl rfl) rfl rfl rfl ?_
              refine al_end ?_
              refine aq_then ?_
              refine ac_cond rfl (fun h6 => ?_) (fun h6 => ?_)
              · have g6 := of_decide_eq_true h6
                have hval : ((iA S.heat x - iA heat x + (cA M x).cool - 1).tdiv (cA M x).cool) = maxTo (restF M S heat) (x + 1) := by simp only [maxTo]; rw [hfx]; omega
                refine ac_region ?_
                refine al_q (q_move rfl) rfl rfl rfl ?_
                refine al_q (q_assign rfl) rfl rfl rfl ?_
                refine al_end ?_
                refine aq_inN ?_
                refine aq_then ?_
                refine ac_region ?_
                refine al_q (q_move rfl) rfl rfl rfl ?_
                refine al_q (q_add rfl rfl (by omega)) rfl rfl rfl ?_
                refine al_q (q_assign rfl) rfl rfl rfl ?_
                refine al_end ?_
                refine aq_then ?_
                skip
                refine aq_round (x + 1) (by omega) ⟨by omega, hb2.1, hb2.2, upTo hF1.2.2.2 (by omega)⟩ ⟨rfl, rfl, rfl, rfl, rfl, (by rw [← hval]; rfl), (by rw [herr]; rfl), rfl, trivial⟩ (fun w9 hs => hs)
              · have g6 := of_decide_eq_false h6
                have hval : (maxTo (restF M S heat) x) = maxTo (restF M S heat) (x + 1) := by simp only [maxTo]; rw [hfx]; omega
                refine ac_skip ?_
                refine aq_inN ?_
                refine aq_then ?_
                refine ac_region ?_
                refine al_q (q_move rfl) rfl rfl rfl ?_
                refine al_q (q_add rfl rfl (by omega)) rfl rfl rfl ?_
                refine al_q (q_assign rfl) rfl rfl rfl ?_
                refine al_end ?_
                refine aq_then ?_
                skip
                refine aq_round (x + 1) (by omega) ⟨by omega, hb2.1, hb2.2, upTo hF1.2.2.2 (by omega)⟩ ⟨rfl, rfl, rfl, rfl, rfl, (by rw [← hval]; rfl), (by rw [herr]; rfl), rfl, trivial⟩ (fun w9 hs => hs)
      · have hxe : x = R.la := by have := of_decide_eq_false h2; omega
        refine ac_exit ?_
        refine aq_thenE ?_
        refine aq_thenE ?_
        refine aq_hit ?_
        refine aq_then ?_
        refine ac_seq ?_
        refine ac_seq ?_
        refine ac_region ?_
        refine al_q (q_move rfl) rfl rfl rfl ?_
        refine al_q (q_neq rfl rfl) rfl rfl rfl ?_
        refine al_end ?_
        refine aq_then ?_
        refine ac_cond rfl (fun h7 => ?_) (fun h7 => ?_)
        · skip
          refine ac_seq ?_
          refine ac_region ?_
          refine al_q (q_move rfl) rfl rfl rfl ?_
          refine al_q (q_assign rfl) rfl rfl rfl ?_
          refine al_q (q_assign rfl) rfl rfl rfl ?_
          refine al_end ?_
          refine aq_then ?_
          refine ac_ret ?_
          refine aq_thenR ?_
          refine ret2 Try.results21 rfl rfl (fun w9 hs => ?_)
          have hex : ∃ k ∈ List.range M.coils.length, restB M S heat k := by
            apply Classical.byContradiction; intro g; simp [errV, hxe, ← n1, if_neg g] at h7; obtain ⟨k, hk, hb⟩ := h7; exact g ⟨k, List.mem_range.2 hk, hb⟩
          have he8 : errV M S heat x = 8 := by rw [hxe, ← n1]; exact if_pos hex
          have hE : restL M S heat = (0, 8) := by rw [restL, if_neg hvl, if_neg (all_nn (fun j hj => hF1.2.2.2 j (by omega))), if_pos hex]
          rw [hE, he8]; exact ⟨rfl, hs.below⟩
        · skip
          refine ac_skip ?_
          refine aq_then ?_
          refine ac_seq ?_
          refine ac_region ?_
          refine al_q (q_move rfl) rfl rfl rfl ?_
          refine al_q (q_assign rfl) rfl rfl rfl ?_
          refine al_q (q_assign rfl) rfl rfl rfl ?_
          refine al_end ?_
          refine aq_then ?_
          refine ac_ret ?_
          refine ret2 Try.results21 rfl rfl (fun w9 hs => ?_)
          have hex : ¬ ∃ k ∈ List.range M.coils.length, restB M S heat k := by
            intro g; simp [errV, hxe, ← n1, if_pos g] at h7; obtain ⟨k, hk, hb⟩ := g; exact h7 k (List.mem_range.1 hk) hb
          have hE : restL M S heat = (maxTo (restF M S heat) R.la, 0) := by
            rw [restL, if_neg hvl, if_neg (all_nn (fun j hj => hF1.2.2.2 j (by omega))), if_neg hex, hM.coils.1]
          rw [hE, ← hxe]; exact ⟨rfl, hs.below⟩

end Go.Proofs.Ytcjndnadibbcbaa
end
