import Derived.Test.YtkhahbnagbjbiaaGreatNAB
import Derived.Test.YtkhahbnagbjbiaaGreatNAP
import Derived.Test.YtkhahbnagbjbiaaGreatNBB
import Derived.Test.YtkhahbnagbjbiaaGreatRows
import Derived.KernelRfl
import Derived.Laws.StructEq
import Derived.Deep.RegionHeld3
import Derived.Deep.DeepCutAuto
import Derived.Deep.QuietTactic
import Derived.BigQuiet
import Derived.IntWalk
section
/- Package circuit: Begin, over this seat's translation (written by ax_ci9.py). -/
namespace Go.Proofs.YtkhahbnagbjbiaaGreat
set_option linter.unusedVariables false
set_option linter.unusedSimpArgs false
open Go.RowKit

theorem flatB (n : Nat) : (List.replicate n false).flatMap boolCells = List.replicate n (.bool false) := by
  induction n with
  | zero => rfl
  | succ n ih => rw [List.replicate_succ, List.flatMap_cons, ih]; rfl
def zeroS : Value := .agg #[.int .i64 0, .slice none 0 0, .slice none 0 0, .slice none 0 0, .slice none 0 0, .slice none 0 0]
def beginD (M : MachD) : StD := ⟨0, ⟨zerosI M.coils.length, zerosI M.shells.length, zerosI (cellN M)⟩, zerosI M.coils.length, List.replicate M.coils.length false⟩
def beginR (R : MachR) (M : MachD) (q1 q2 q3 b2 b3 : Nat) : StR := ⟨⟨some ⟨q1, 0, none⟩, some ⟨q2, 0, none⟩, some ⟨q3, 0, none⟩, R.la, R.la, R.lb, R.lb, cellN M, cellN M⟩, some ⟨b2, 0, none⟩, some ⟨b3, 0, none⟩, R.la, R.la, R.la, R.la⟩
theorem begin_isS {w : World} {R : MachR} {M : MachD} {q1 q2 q3 b2 b3 : Nat} (n1 : M.coils.length = R.la) (n2 : M.shells.length = R.lb) (k1 : R.la ≤ 1000) (k2 : R.lb ≤ 1000) (k3 : cellN M ≤ 64) (h1 : IsT 1 intCells w (some ⟨q1, 0, none⟩) R.la (zerosI R.la)) (h2 : IsT 1 intCells w (some ⟨q2, 0, none⟩) R.lb (zerosI R.lb)) (h3 : IsT 1 intCells w (some ⟨q3, 0, none⟩) (cellN M) (zerosI (cellN M))) (h4 : IsT 1 intCells w (some ⟨b2, 0, none⟩) R.la (zerosI R.la)) (h5 : IsT 1 boolCells w (some ⟨b3, 0, none⟩) R.la (List.replicate R.la false)) : IsS w (beginR R M q1 q2 q3 b2 b3) (beginD M) := by
  unfold beginR beginD
  rw [n1, n2]
  exact ⟨⟨h1, h2, h3, Nat.le_refl _, Nat.le_refl _, Nat.le_refl _, by simp only; omega, by simp only; omega, by simp only; omega, by simp only; omega, by simp only; omega, by simp only; omega⟩, h4, h5, Nat.le_refl _, Nat.le_refl _, by simp only; omega, by simp only; omega, by simp only; omega, by simp only; omega⟩
def zeroR : StR := ⟨⟨none, none, none, 0, 0, 0, 0, 0, 0⟩, none, none, 0, 0, 0, 0⟩
/-- what a function gives that answers with a state: an error, or a valid state in new memory -/
def OutS (w : World) (k : Int) (D : StD) (e : Ending) (w' : World) : Prop :=
  ∃ (x : StR) (n : Int), e = .returned (.tuple #[x.v n, .int .i64 k]) ∧ (k = 0 → n = D.tick ∧ IsS w' x D ∧ x.All (fun b => w.heap.size ≤ b)) ∧ (k ≠ 0 → n = 0 ∧ x = zeroR) ∧ Below w.heap.size w w'
theorem OutS.ok {w : World} {D : StD} {e : Ending} {w' : World} (h : ∃ x : StR, e = .returned (.tuple #[x.v D.tick, .int .i64 0]) ∧ IsS w' x D ∧ x.All (fun b => w.heap.size ≤ b) ∧ Below w.heap.size w w') : OutS w 0 D e w' :=
  h.elim fun x h => ⟨x, D.tick, h.1, fun _ => ⟨rfl, h.2.1, h.2.2.1⟩, fun h => absurd rfl h, h.2.2.2⟩
theorem OutS.bad {w : World} {k : Int} {D : StD} {e : Ending} {w' : World} (hk : k ≠ 0) (h : Ret (.tuple #[zeroS, .int .i64 k]) w e w') : OutS w k D e w' := ⟨zeroR, 0, h.1, fun h => absurd h hk, fun _ => ⟨rfl, rfl⟩, h.2⟩
theorem kim_bl_apiState_1_2_3 (c0_0 c0_1 c0_2 a1 a2 : Value) (ha1 : a1.oneCell' = true) (ha2 : a2.oneCell' = true) : ∀ w, (Instr.build 35 #[(1, .agg #[c0_0, c0_1, c0_2]), (2, a1), (3, a2)]).run Tryz.prog w = .ok (.agg #[(.int .i64 0), c0_0, c0_1, c0_2, a1, a2]) w := by
  have ea1 : a1.cells = #[a1] := cells_one ha1
  have ea2 : a2.cells = #[a2] := cells_one ha2
  intro w; simp [Instr.build, Instr.fill, cells_agg, Tryz.runUnderlying35, Tryz.zeroValue35, Tryz.sizeOf3, Tryz.sizeOf30, Tryz.sizeOf32, Tryz.sizeOf33, ea1, ea2]

set_option maxRecDepth 100000 in
theorem begin_ok (R : MachR) (M : MachD) (w : World) (hM : IsM w R M) (hc : checkC M = 0) : Calls Tryz.prog 22 #[(.agg (machCells R M))] w (OutS w 0 (beginD M)) := by
  have n1 := hM.coils.1
  have n5 := (sound_of hc).coils.1
  have n6 := (sound_of hc).shells.1
  have n2 := hM.shells.1
  have n7 := cellN_bd hc
  refine calls_ax (vs := [(.agg (machCells R M))]) Tryz.func22 rfl rfl ?_
  refine ac_seq (ac_region ?_)
  refine al_new (fun b => .pointer (some ⟨b, 0, none⟩)) (r_box rfl rfl) rfl rfl rfl ?_
  intro b1
  refine al_new (fun b => .pointer (some ⟨b, 0, none⟩)) (r_alloc Tryz.zeroValue35 rfl) rfl rfl rfl ?_
  intro b2
  refine al_p (q_assign rfl) ?_
  refine al_end (aq_then ?_)
  refine ac_seq ?_
  refine ac_seq (ac_region ?_)
  refine al_p (q_loadAll (i := 1) rfl rfl Tryz.isAgg29 Tryz.sizeOf29 rfl) ?_
  refine al_call Tryz.call40 (.cons rfl .nil) rfl rfl (fun w1 hs1 => ?_)
  refine (check_any R M _ (hM.below hs1.below)).mono ?_
  rintro e u1 ⟨rfl, hb_1⟩
  refine ⟨_, rfl, hb_1, ?_⟩
  clear hs1
  refine al_p (q_neq rfl rfl) ?_
  refine al_end (aq_then ?_)
  refine ac_cond rfl (fun h1 => ?_) (fun h1 => ?_)
  · exfalso; simp [hc] at h1
  · skip
    refine ac_skip ?_
    refine aq_then ?_
    refine ac_seq (ac_region ?_)
    refine al_p (q_fieldAddr 1 rfl Tryz.runUnderlying29 rfl Tryz.sizeOf22 (by decide) rfl) ?_
    refine al_p (q_load (i := 1) rfl rfl rfl Tryz.isAgg22) ?_
    refine al_p (q_lenS rfl Tryz.runUnderlying22) ?_
    refine al_p (q_assign rfl) ?_
    refine al_end (aq_then ?_)
    refine ac_seq ?_
    refine ac_drawK 1 8 rfl (by kernel_rfl) (by kernel_rfl) ?_
    refine ah_t 0 (fun w9 hs => (hs.tail 1 rfl)) rfl rfl (by kernel_rfl) (q_loadAll (i := 0) rfl rfl Tryz.isAgg29 Tryz.sizeOf29 rfl) ?_
    refine ah_t 2 (fun w9 hs => (hs.tail 1 rfl)) rfl rfl (by kernel_rfl) (q_move rfl) ?_
    refine ah_t 4 (fun w9 hs => (hs.tail 1 rfl)) rfl rfl (by kernel_rfl) (q_move rfl) ?_
    refine ah_three 1 3 5 rfl rfl rfl  (by kernel_rfl) (fun hok1 hcl1 => ?_) (fun hok1 hcl1 => ?_) (fun hok1 hcl1 => ?_)
    · refine al_callS Tryz.call47 (.cons rfl .nil) rfl rfl (fun w2 hs2 => ?_)
      refine (quiet_ok R M _ (hM.below hs2.below) hc).mono ?_
      rintro e u2 ⟨q1, q2, q3, rfl, hb_2⟩
      refine ⟨_, _, _, rfl, hs2.gift hb_2, ?_⟩
      refine al_end (ah_back hok1 hcl1 (fun w9 hs => (hs.tail 4 rfl)) ?_)
      refine ah_two 3 5 rfl rfl  (by kernel_rfl) (fun hok2 hcl2 => ?_) (fun hok2 hcl2 => ?_)
      · refine al_makeInts (n := R.la) (z := (.int .i64 0)) (bytes := 8) rfl rfl rfl Tryz.underlying30 (by kernel_rfl) rfl (by omega) (by decide) rfl rfl ?_
        intro b3
        refine al_end (ah_back hok2 hcl2 (fun w9 hs => (hs.tail 5 rfl)) ?_)
        refine ah_one 5 rfl (by kernel_rfl) (fun hok3 hcl3 => ?_)
        refine al_makeInts (n := R.la) (z := (.bool false)) (bytes := 1) rfl rfl rfl Tryz.underlying33 (by kernel_rfl) rfl (by omega) (by decide) rfl rfl ?_
        intro b4
        refine al_end (ah_back hok3 hcl3 (fun w9 hs => (hs.tail 6 rfl)) ?_)
        refine ah_t 6 (fun w9 hs => (hs.tail 6 rfl)) rfl rfl (by kernel_rfl) (q_build (.cons rfl (.cons rfl (.cons rfl .nil))) (kim_bl_apiState_1_2_3 _ _ _ _ _ rfl rfl)) ?_
        refine ah_one 7 rfl (by kernel_rfl) (fun hok4 hcl4 => ?_)
        refine al_storeAll (i := 5) rfl rfl rfl rfl Tryz.sizeOf35 rfl rfl .k5 rfl ?_
        refine al_end (ah_back hok4 hcl4 (fun w9 hs => (hs.tail 6 rfl)) ?_)
        refine ah_one 8 rfl (by kernel_rfl) (fun hok5 hcl5 => ?_)
        refine al_p (q_assign rfl) ?_
        refine al_end (ah_last (by kernel_rfl) ?_)
        refine aq_then ?_
        refine ac_ret ?_
        refine retR Tryz.results22 (.agg (i := 5) rfl rfl Tryz.isAgg35 Tryz.sizeOf35 rfl (.tmp rfl .nil)) .two (fun w9 hs => ?_)
        refine OutS.ok ⟨beginR R M q1 q2 q3 b3 b4, rfl, ?_, ?_, hs.below⟩
        · exact begin_isS n1 n2 (by omega) (by omega) n7.2 (isT_box0 (n := 1) (enc := intCells) (fun _ => rfl) (hs.at 2 rfl) (flatZ R.la) (by simp [zerosI])) (isT_box0 (n := 1) (enc := intCells) (fun _ => rfl) (hs.at 3 rfl) (flatZ R.lb) (by simp [zerosI])) (isT_box0 (n := 1) (enc := intCells) (fun _ => rfl) (hs.at 4 rfl) (flatZ (cellN M)) (by simp [zerosI])) (isT_box0 (n := 1) (enc := intCells) (fun _ => rfl) (hs.at 1 rfl) (flatZ R.la) (by simp [zerosI])) (isT_box0 (n := 1) (enc := boolCells) (fun _ => rfl) (hs.at 0 rfl) (flatB R.la) (by simp))
        · exact ⟨hs.new 2 rfl, hs.new 3 rfl, hs.new 4 rfl, hs.new 1 rfl, hs.new 0 rfl⟩
      · refine al_makeInts (n := R.la) (z := (.bool false)) (bytes := 1) rfl rfl rfl Tryz.underlying33 (by kernel_rfl) rfl (by omega) (by decide) rfl rfl ?_
        intro b5
        refine al_end (ah_back hok2 hcl2 (fun w9 hs => (hs.tail 5 rfl)) ?_)
        refine ah_one 3 rfl (by kernel_rfl) (fun hok6 hcl6 => ?_)
        refine al_makeInts (n := R.la) (z := (.int .i64 0)) (bytes := 8) rfl rfl rfl Tryz.underlying30 (by kernel_rfl) rfl (by omega) (by decide) rfl rfl ?_
        intro b6
        refine al_end (ah_back hok6 hcl6 (fun w9 hs => (hs.tail 6 rfl)) ?_)
        refine ah_t 6 (fun w9 hs => (hs.tail 6 rfl)) rfl rfl (by kernel_rfl) (q_build (.cons rfl (.cons rfl (.cons rfl .nil))) (kim_bl_apiState_1_2_3 _ _ _ _ _ rfl rfl)) ?_
        refine ah_one 7 rfl (by kernel_rfl) (fun hok7 hcl7 => ?_)
        refine al_storeAll (i := 5) rfl rfl rfl rfl Tryz.sizeOf35 rfl rfl .k5 rfl ?_
        refine al_end (ah_back hok7 hcl7 (fun w9 hs => (hs.tail 6 rfl)) ?_)
        refine ah_one 8 rfl (by kernel_rfl) (fun hok8 hcl8 => ?_)
        refine al_p (q_assign rfl) ?_
        refine al_end (ah_last (by kernel_rfl) ?_)
        refine aq_then ?_
        refine ac_ret ?_
        refine retR Tryz.results22 (.agg (i := 5) rfl rfl Tryz.isAgg35 Tryz.sizeOf35 rfl (.tmp rfl .nil)) .two (fun w9 hs => ?_)
        refine OutS.ok ⟨beginR R M q1 q2 q3 b6 b5, rfl, ?_, ?_, hs.below⟩
        · exact begin_isS n1 n2 (by omega) (by omega) n7.2 (isT_box0 (n := 1) (enc := intCells) (fun _ => rfl) (hs.at 2 rfl) (flatZ R.la) (by simp [zerosI])) (isT_box0 (n := 1) (enc := intCells) (fun _ => rfl) (hs.at 3 rfl) (flatZ R.lb) (by simp [zerosI])) (isT_box0 (n := 1) (enc := intCells) (fun _ => rfl) (hs.at 4 rfl) (flatZ (cellN M)) (by simp [zerosI])) (isT_box0 (n := 1) (enc := intCells) (fun _ => rfl) (hs.at 0 rfl) (flatZ R.la) (by simp [zerosI])) (isT_box0 (n := 1) (enc := boolCells) (fun _ => rfl) (hs.at 1 rfl) (flatB R.la) (by simp))
        · exact ⟨hs.new 2 rfl, hs.new 3 rfl, hs.new 4 rfl, hs.new 0 rfl, hs.new 1 rfl⟩
    · refine al_makeInts (n := R.la) (z := (.int .i64 0)) (bytes := 8) rfl rfl rfl Tryz.underlying30 (by kernel_rfl) rfl (by omega) (by decide) rfl rfl ?_
      intro b7
      refine al_end (ah_back hok1 hcl1 (fun w9 hs => (hs.tail 2 rfl)) ?_)
      refine ah_two 1 5 rfl rfl  (by kernel_rfl) (fun hok9 hcl9 => ?_) (fun hok9 hcl9 => ?_)
      · refine al_callS Tryz.call47 (.cons rfl .nil) rfl rfl (fun w3 hs3 => ?_)
        refine (quiet_ok R M _ (hM.below hs3.below) hc).mono ?_
        rintro e u3 ⟨q1, q2, q3, rfl, hb_3⟩
        refine ⟨_, _, _, rfl, hs3.gift hb_3, ?_⟩
        refine al_end (ah_back hok9 hcl9 (fun w9 hs => (hs.tail 5 rfl)) ?_)
        refine ah_one 5 rfl (by kernel_rfl) (fun hok10 hcl10 => ?_)
        refine al_makeInts (n := R.la) (z := (.bool false)) (bytes := 1) rfl rfl rfl Tryz.underlying33 (by kernel_rfl) rfl (by omega) (by decide) rfl rfl ?_
        intro b8
        refine al_end (ah_back hok10 hcl10 (fun w9 hs => (hs.tail 6 rfl)) ?_)
        refine ah_t 6 (fun w9 hs => (hs.tail 6 rfl)) rfl rfl (by kernel_rfl) (q_build (.cons rfl (.cons rfl (.cons rfl .nil))) (kim_bl_apiState_1_2_3 _ _ _ _ _ rfl rfl)) ?_
        refine ah_one 7 rfl (by kernel_rfl) (fun hok11 hcl11 => ?_)
        refine al_storeAll (i := 5) rfl rfl rfl rfl Tryz.sizeOf35 rfl rfl .k5 rfl ?_
        refine al_end (ah_back hok11 hcl11 (fun w9 hs => (hs.tail 6 rfl)) ?_)
        refine ah_one 8 rfl (by kernel_rfl) (fun hok12 hcl12 => ?_)
        refine al_p (q_assign rfl) ?_
        refine al_end (ah_last (by kernel_rfl) ?_)
        refine aq_then ?_
        refine ac_ret ?_
        refine retR Tryz.results22 (.agg (i := 5) rfl rfl Tryz.isAgg35 Tryz.sizeOf35 rfl (.tmp rfl .nil)) .two (fun w9 hs => ?_)
        refine OutS.ok ⟨beginR R M q1 q2 q3 b7 b8, rfl, ?_, ?_, hs.below⟩
        · exact begin_isS n1 n2 (by omega) (by omega) n7.2 (isT_box0 (n := 1) (enc := intCells) (fun _ => rfl) (hs.at 1 rfl) (flatZ R.la) (by simp [zerosI])) (isT_box0 (n := 1) (enc := intCells) (fun _ => rfl) (hs.at 2 rfl) (flatZ R.lb) (by simp [zerosI])) (isT_box0 (n := 1) (enc := intCells) (fun _ => rfl) (hs.at 3 rfl) (flatZ (cellN M)) (by simp [zerosI])) (isT_box0 (n := 1) (enc := intCells) (fun _ => rfl) (hs.at 4 rfl) (flatZ R.la) (by simp [zerosI])) (isT_box0 (n := 1) (enc := boolCells) (fun _ => rfl) (hs.at 0 rfl) (flatB R.la) (by simp))
        · exact ⟨hs.new 1 rfl, hs.new 2 rfl, hs.new 3 rfl, hs.new 4 rfl, hs.new 0 rfl⟩
      · refine al_makeInts (n := R.la) (z := (.bool false)) (bytes := 1) rfl rfl rfl Tryz.underlying33 (by kernel_rfl) rfl (by omega) (by decide) rfl rfl ?_
        intro b9
        refine al_end (ah_back hok9 hcl9 (fun w9 hs => (hs.tail 3 rfl)) ?_)
        refine ah_one 1 rfl (by kernel_rfl) (fun hok13 hcl13 => ?_)
        refine al_callS Tryz.call47 (.cons rfl .nil) rfl rfl (fun w4 hs4 => ?_)
        refine (quiet_ok R M _ (hM.below hs4.below) hc).mono ?_
        rintro e u4 ⟨q1, q2, q3, rfl, hb_4⟩
        refine ⟨_, _, _, rfl, hs4.gift hb_4, ?_⟩
        refine al_end (ah_back hok13 hcl13 (fun w9 hs => (hs.tail 6 rfl)) ?_)
        refine ah_t 6 (fun w9 hs => (hs.tail 6 rfl)) rfl rfl (by kernel_rfl) (q_build (.cons rfl (.cons rfl (.cons rfl .nil))) (kim_bl_apiState_1_2_3 _ _ _ _ _ rfl rfl)) ?_
        refine ah_one 7 rfl (by kernel_rfl) (fun hok14 hcl14 => ?_)
        refine al_storeAll (i := 5) rfl rfl rfl rfl Tryz.sizeOf35 rfl rfl .k5 rfl ?_
        refine al_end (ah_back hok14 hcl14 (fun w9 hs => (hs.tail 6 rfl)) ?_)
        refine ah_one 8 rfl (by kernel_rfl) (fun hok15 hcl15 => ?_)
        refine al_p (q_assign rfl) ?_
        refine al_end (ah_last (by kernel_rfl) ?_)
        refine aq_then ?_
        refine ac_ret ?_
        refine retR Tryz.results22 (.agg (i := 5) rfl rfl Tryz.isAgg35 Tryz.sizeOf35 rfl (.tmp rfl .nil)) .two (fun w9 hs => ?_)
        refine OutS.ok ⟨beginR R M q1 q2 q3 b7 b9, rfl, ?_, ?_, hs.below⟩
        · exact begin_isS n1 n2 (by omega) (by omega) n7.2 (isT_box0 (n := 1) (enc := intCells) (fun _ => rfl) (hs.at 0 rfl) (flatZ R.la) (by simp [zerosI])) (isT_box0 (n := 1) (enc := intCells) (fun _ => rfl) (hs.at 1 rfl) (flatZ R.lb) (by simp [zerosI])) (isT_box0 (n := 1) (enc := intCells) (fun _ => rfl) (hs.at 2 rfl) (flatZ (cellN M)) (by simp [zerosI])) (isT_box0 (n := 1) (enc := intCells) (fun _ => rfl) (hs.at 4 rfl) (flatZ R.la) (by simp [zerosI])) (isT_box0 (n := 1) (enc := boolCells) (fun _ => rfl) (hs.at 3 rfl) (flatB R.la) (by simp))
        · exact ⟨hs.new 0 rfl, hs.new 1 rfl, hs.new 2 rfl, hs.new 4 rfl, hs.new 3 rfl⟩
    · refine al_makeInts (n := R.la) (z := (.bool false)) (bytes := 1) rfl rfl rfl Tryz.underlying33 (by kernel_rfl) rfl (by omega) (by decide) rfl rfl ?_
      intro b10
      refine al_end (ah_back hok1 hcl1 (fun w9 hs => (hs.tail 2 rfl)) ?_)
      refine ah_two 1 3 rfl rfl  (by kernel_rfl) (fun hok16 hcl16 => ?_) (fun hok16 hcl16 => ?_)
      · refine al_callS Tryz.call47 (.cons rfl .nil) rfl rfl (fun w5 hs5 => ?_)
        refine (quiet_ok R M _ (hM.below hs5.below) hc).mono ?_
        rintro e u5 ⟨q1, q2, q3, rfl, hb_5⟩
        refine ⟨_, _, _, rfl, hs5.gift hb_5, ?_⟩
        refine al_end (ah_back hok16 hcl16 (fun w9 hs => (hs.tail 5 rfl)) ?_)
        refine ah_one 3 rfl (by kernel_rfl) (fun hok17 hcl17 => ?_)
        refine al_makeInts (n := R.la) (z := (.int .i64 0)) (bytes := 8) rfl rfl rfl Tryz.underlying30 (by kernel_rfl) rfl (by omega) (by decide) rfl rfl ?_
        intro b11
        refine al_end (ah_back hok17 hcl17 (fun w9 hs => (hs.tail 6 rfl)) ?_)
        refine ah_t 6 (fun w9 hs => (hs.tail 6 rfl)) rfl rfl (by kernel_rfl) (q_build (.cons rfl (.cons rfl (.cons rfl .nil))) (kim_bl_apiState_1_2_3 _ _ _ _ _ rfl rfl)) ?_
        refine ah_one 7 rfl (by kernel_rfl) (fun hok18 hcl18 => ?_)
        refine al_storeAll (i := 5) rfl rfl rfl rfl Tryz.sizeOf35 rfl rfl .k5 rfl ?_
        refine al_end (ah_back hok18 hcl18 (fun w9 hs => (hs.tail 6 rfl)) ?_)
        refine ah_one 8 rfl (by kernel_rfl) (fun hok19 hcl19 => ?_)
        refine al_p (q_assign rfl) ?_
        refine al_end (ah_last (by kernel_rfl) ?_)
        refine aq_then ?_
        refine ac_ret ?_
        refine retR Tryz.results22 (.agg (i := 5) rfl rfl Tryz.isAgg35 Tryz.sizeOf35 rfl (.tmp rfl .nil)) .two (fun w9 hs => ?_)
        refine OutS.ok ⟨beginR R M q1 q2 q3 b11 b10, rfl, ?_, ?_, hs.below⟩
        · exact begin_isS n1 n2 (by omega) (by omega) n7.2 (isT_box0 (n := 1) (enc := intCells) (fun _ => rfl) (hs.at 1 rfl) (flatZ R.la) (by simp [zerosI])) (isT_box0 (n := 1) (enc := intCells) (fun _ => rfl) (hs.at 2 rfl) (flatZ R.lb) (by simp [zerosI])) (isT_box0 (n := 1) (enc := intCells) (fun _ => rfl) (hs.at 3 rfl) (flatZ (cellN M)) (by simp [zerosI])) (isT_box0 (n := 1) (enc := intCells) (fun _ => rfl) (hs.at 0 rfl) (flatZ R.la) (by simp [zerosI])) (isT_box0 (n := 1) (enc := boolCells) (fun _ => rfl) (hs.at 4 rfl) (flatB R.la) (by simp))
        · exact ⟨hs.new 1 rfl, hs.new 2 rfl, hs.new 3 rfl, hs.new 0 rfl, hs.new 4 rfl⟩
      · refine al_makeInts (n := R.la) (z := (.int .i64 0)) (bytes := 8) rfl rfl rfl Tryz.underlying30 (by kernel_rfl) rfl (by omega) (by decide) rfl rfl ?_
        intro b12
        refine al_end (ah_back hok16 hcl16 (fun w9 hs => (hs.tail 3 rfl)) ?_)
        refine ah_one 1 rfl (by kernel_rfl) (fun hok20 hcl20 => ?_)
        refine al_callS Tryz.call47 (.cons rfl .nil) rfl rfl (fun w6 hs6 => ?_)
        refine (quiet_ok R M _ (hM.below hs6.below) hc).mono ?_
        rintro e u6 ⟨q1, q2, q3, rfl, hb_6⟩
        refine ⟨_, _, _, rfl, hs6.gift hb_6, ?_⟩
        refine al_end (ah_back hok20 hcl20 (fun w9 hs => (hs.tail 6 rfl)) ?_)
        refine ah_t 6 (fun w9 hs => (hs.tail 6 rfl)) rfl rfl (by kernel_rfl) (q_build (.cons rfl (.cons rfl (.cons rfl .nil))) (kim_bl_apiState_1_2_3 _ _ _ _ _ rfl rfl)) ?_
        refine ah_one 7 rfl (by kernel_rfl) (fun hok21 hcl21 => ?_)
        refine al_storeAll (i := 5) rfl rfl rfl rfl Tryz.sizeOf35 rfl rfl .k5 rfl ?_
        refine al_end (ah_back hok21 hcl21 (fun w9 hs => (hs.tail 6 rfl)) ?_)
        refine ah_one 8 rfl (by kernel_rfl) (fun hok22 hcl22 => ?_)
        refine al_p (q_assign rfl) ?_
        refine al_end (ah_last (by kernel_rfl) ?_)
        refine aq_then ?_
        refine ac_ret ?_
        refine retR Tryz.results22 (.agg (i := 5) rfl rfl Tryz.isAgg35 Tryz.sizeOf35 rfl (.tmp rfl .nil)) .two (fun w9 hs => ?_)
        refine OutS.ok ⟨beginR R M q1 q2 q3 b12 b10, rfl, ?_, ?_, hs.below⟩
        · exact begin_isS n1 n2 (by omega) (by omega) n7.2 (isT_box0 (n := 1) (enc := intCells) (fun _ => rfl) (hs.at 0 rfl) (flatZ R.la) (by simp [zerosI])) (isT_box0 (n := 1) (enc := intCells) (fun _ => rfl) (hs.at 1 rfl) (flatZ R.lb) (by simp [zerosI])) (isT_box0 (n := 1) (enc := intCells) (fun _ => rfl) (hs.at 2 rfl) (flatZ (cellN M)) (by simp [zerosI])) (isT_box0 (n := 1) (enc := intCells) (fun _ => rfl) (hs.at 3 rfl) (flatZ R.la) (by simp [zerosI])) (isT_box0 (n := 1) (enc := boolCells) (fun _ => rfl) (hs.at 4 rfl) (flatB R.la) (by simp))
        · exact ⟨hs.new 0 rfl, hs.new 1 rfl, hs.new 2 rfl, hs.new 3 rfl, hs.new 4 rfl⟩

end Go.Proofs.YtkhahbnagbjbiaaGreat
end
section
/- Package circuit: Step, Coast, over this seat's translation (written by ax_ci9.py). -/
namespace Go.Proofs.YtkhahbnagbjbiaaGreat
set_option linter.unusedVariables false
set_option linter.unusedSimpArgs false
open Go.RowKit

theorem kin_bl_apiState_ : ∀ w, (Instr.build 35 #[]).run Tryz.prog w = .ok (.agg #[(.int .i64 0), (.slice none 0 0), (.slice none 0 0), (.slice none 0 0), (.slice none 0 0), (.slice none 0 0)]) w := by
  intro w; simp [Instr.build, Instr.fill, cells_agg, Tryz.runUnderlying35, Tryz.zeroValue35, Tryz.sizeOf3, Tryz.sizeOf30, Tryz.sizeOf32, Tryz.sizeOf33]

set_option maxRecDepth 100000 in
theorem repeat_bad (R : MachR) (M : MachD) (RS : StR) (S : StD) (A1 A2 : Option Addr) (l1 c1 l2 c2 : Nat) (ch pl : List Int) (n : Int) (w : World) (hS : 0 ≤ S.tick ∧ S.tick ≤ 1000000000) (h : ¬ ((0 ≤ n ∧ n ≤ 10000) ∧ S.tick + n ≤ 1000000000)) : Calls Tryz.prog 25 #[(.agg (machCells R M)), (RS.v S.tick), (.agg #[.slice A1 l1 c1, .slice A2 l2 c2]), (.int .i64 n)] w (Ret (.tuple #[zeroS, .int .i64 7]) w) := by
  refine calls_ax (vs := [(.agg (machCells R M)), (RS.v S.tick), (.agg #[.slice A1 l1 c1, .slice A2 l2 c2]), (.int .i64 n)]) Tryz.func25 rfl rfl ?_
  refine ac_seq (ac_region ?_)
  refine al_new (fun b => .pointer (some ⟨b, 0, none⟩)) (r_box rfl rfl) rfl rfl rfl ?_
  intro b1
  refine al_new (fun b => .pointer (some ⟨b, 0, none⟩)) (r_box rfl rfl) rfl rfl rfl ?_
  intro b2
  refine al_new (fun b => .pointer (some ⟨b, 0, none⟩)) (r_box rfl rfl) rfl rfl rfl ?_
  intro b3
  refine al_new (fun b => .pointer (some ⟨b, 0, none⟩)) (r_alloc Tryz.zeroValue35 rfl) rfl rfl rfl ?_
  intro b4
  refine al_p (q_assign rfl) ?_
  refine al_end (aq_then ?_)
  refine ac_seq ?_
  refine ac_seq (ac_region ?_)
  refine al_p (q_move rfl) ?_
  refine al_call Tryz.call49 (.cons rfl (.cons rfl (.cons rfl .nil))) rfl rfl (fun w1 hs1 => ?_)
  refine (cwithin_any n 0 10000 _).mono ?_
  rintro e u1 ⟨rfl, hb_1⟩
  refine ⟨_, rfl, hb_1, ?_⟩
  clear hs1
  refine al_p (q_not rfl) ?_
  refine al_p (q_move rfl) ?_
  refine aq_split 16 rfl (fun hb1 => ?_) (fun hb1 => ?_)
  · skip
    refine al_skip rfl rfl rfl ?_
    refine al_skip rfl rfl rfl ?_
    refine al_skip rfl rfl rfl ?_
    refine al_skip rfl rfl rfl ?_
    refine al_skip rfl rfl rfl ?_
    refine al_p (q_pickT rfl rfl) ?_
    refine al_end (aq_then ?_)
    refine ac_condT rfl ?_
    refine ac_seq (ac_region ?_)
    refine al_p (q_build .nil (kin_bl_apiState_)) ?_
    refine al_storeAll (i := 0) rfl rfl rfl rfl Tryz.sizeOf35 rfl rfl .k0 rfl ?_
    refine al_p (q_assign rfl) ?_
    refine al_end (aq_then ?_)
    refine ac_ret ?_
    refine aq_thenR ?_
    refine retR Tryz.results25 (.agg (i := 0) rfl rfl Tryz.isAgg35 Tryz.sizeOf35 rfl (.tmp rfl .nil)) .two (fun w9 hs => ?_)
    exact ⟨rfl, hs.below⟩
  · have hn := wthn_iff.1 (show wthn n 0 10000 = true by simpa using hb1)
    refine al_p (q_fieldAddr 0 rfl Tryz.runUnderlying35 rfl Tryz.sizeOf3 (by decide) rfl) ?_
    refine al_p (q_load (i := 2) rfl rfl rfl Tryz.isAgg3) ?_
    refine al_p (q_move rfl) ?_
    refine al_p (q_add rfl rfl (by omega)) ?_
    refine al_p (q_gtr rfl rfl) ?_
    refine al_p (q_pickF rfl rfl) ?_
    refine al_end (aq_then ?_)
    refine ac_cond rfl (fun h1 => ?_) (fun h1 => ?_)
    · skip
      refine ac_seq (ac_region ?_)
      refine al_p (q_build .nil (kin_bl_apiState_)) ?_
      refine al_storeAll (i := 0) rfl rfl rfl rfl Tryz.sizeOf35 rfl rfl .k0 rfl ?_
      refine al_p (q_assign rfl) ?_
      refine al_end (aq_then ?_)
      refine ac_ret ?_
      refine aq_thenR ?_
      refine retR Tryz.results25 (.agg (i := 0) rfl rfl Tryz.isAgg35 Tryz.sizeOf35 rfl (.tmp rfl .nil)) .two (fun w9 hs => ?_)
      exact ⟨rfl, hs.below⟩
    · exfalso; have := of_decide_eq_false h1; omega

def repE (S : StD) (n : Int) : Int := if (0 ≤ n ∧ n ≤ 10000) ∧ S.tick + n ≤ 1000000000 then 0 else 7
theorem repeat_any (R : MachR) (M : MachD) (RS : StR) (S : StD) (A1 A2 : Option Addr) (l1 c1 l2 c2 : Nat) (ch pl : List Int) (n : Int) (w : World) (hM : IsM w R M) (hS : IsS w RS S) (hF : FitS M S) (i1 : IsT 1 intCells w A1 l1 ch) (i2 : IsT 1 intCells w A2 l2 pl) (hD : FitD M (ch, pl)) : Calls Tryz.prog 25 #[.agg (machCells R M), RS.v S.tick, .agg #[.slice A1 l1 c1, .slice A2 l2 c2], .int .i64 n] w (OutS w (repE S n) (stepsD M S (fun _ : Nat => (ch, pl)) n.toNat)) := by
  unfold repE
  split
  · rename_i h
    obtain ⟨k, rfl⟩ := Int.eq_ofNat_of_zero_le h.1.1
    have h1 := h.1.2
    exact (repeat_ok R M RS S A1 A2 l1 c1 l2 c2 ch pl k w hM hS hF i1 i2 hD (by omega) h.2).mono fun e w' h => OutS.ok h
  · rename_i h
    exact (repeat_bad R M RS S A1 A2 l1 c1 l2 c2 ch pl n w hF.tick h).mono fun e w' h => OutS.bad (by decide) h
def stepE (M : MachD) (S : StD) (ch pl : List Int) : Int := if validS M S = true ∧ validCh M ch 1000000000000000 = true ∧ validPl M pl = true then repE S 1 else 1
theorem smallC {M : MachD} {R : MachR} {w : World} (hM : IsM w R M) (hc : checkC M = 0) : R.la ≤ 1000 ∧ R.lb ≤ 1000 := by
  have n1 := hM.coils.1
  have n2 := hM.shells.1
  have n5 := (sound_of hc).coils.1
  have n6 := (sound_of hc).shells.1
  omega
theorem fitD_of {M : MachD} {ch pl : List Int} (h1 : validCh M ch 1000000000000000 = true) (h2 : validPl M pl = true) : FitD M (ch, pl) := ⟨h1, fitP_iff.1 h2⟩
/-- a state that a call has given, later -/
theorem outS_late {E : Cfg} {U : Snaps} {L : Boxes} {w0 w wi u : World} {k : Int} {D : StD} {x : StR} {n : Int} (hs : Sta E U L w) (hu : (wi.heap.size, u) ∈ U) (hz : w0.heap.size ≤ wi.heap.size) (hb : Below w0.heap.size w0 w) (h1 : k = 0 → n = D.tick ∧ IsS u x D ∧ x.All (fun b => wi.heap.size ≤ b)) (h2 : k ≠ 0 → n = 0 ∧ x = zeroR) : OutS w0 k D (.returned (.tuple #[x.v n, .int .i64 k])) w :=
  ⟨x, n, rfl, fun h => ⟨(h1 h).1, hs.isS hu (h1 h).2.1 (h1 h).2.2, (h1 h).2.2.mono (fun b hb => Nat.le_trans hz hb)⟩, h2, hb⟩

set_option maxRecDepth 100000 in
theorem cstep_any (R : MachR) (M : MachD) (RS : StR) (S : StD) (A1 A2 : Option Addr) (l1 c1 l2 c2 : Nat) (ch pl : List Int) (w : World) (hM : IsM w R M) (hS : IsS w RS S) (i1 : IsT 1 intCells w A1 l1 ch) (i2 : IsT 1 intCells w A2 l2 pl) (k2 : l2 ≤ c2 ∧ c2 ≤ 9223372036854775807) : Calls Tryz.prog 9 #[(.agg (machCells R M)), (RS.v S.tick), (.agg #[.slice A1 l1 c1, .slice A2 l2 c2])] w (OutS w (stepE M S ch pl) (stepD M S ch pl)) := by
  refine calls_ax (vs := [(.agg (machCells R M)), (RS.v S.tick), (.agg #[.slice A1 l1 c1, .slice A2 l2 c2])]) Tryz.func9 rfl rfl ?_
  refine ac_seq (ac_region ?_)
  refine al_new (fun b => .pointer (some ⟨b, 0, none⟩)) (r_box rfl rfl) rfl rfl rfl ?_
  intro b1
  refine al_new (fun b => .pointer (some ⟨b, 0, none⟩)) (r_box rfl rfl) rfl rfl rfl ?_
  intro b2
  refine al_new (fun b => .pointer (some ⟨b, 0, none⟩)) (r_box rfl rfl) rfl rfl rfl ?_
  intro b3
  refine al_new (fun b => .pointer (some ⟨b, 0, none⟩)) (r_alloc Tryz.zeroValue35 rfl) rfl rfl rfl ?_
  intro b4
  refine al_p (q_assign rfl) ?_
  refine al_end (aq_then ?_)
  refine ac_seq ?_
  refine ac_seq (ac_region ?_)
  refine al_p (q_loadAll (i := 3) rfl rfl Tryz.isAgg29 Tryz.sizeOf29 rfl) ?_
  refine al_p (q_loadAll (i := 2) rfl rfl Tryz.isAgg35 Tryz.sizeOf35 rfl) ?_
  refine al_call Tryz.call23 (.cons rfl (.cons rfl .nil)) rfl rfl (fun w1 hs1 => ?_)
  refine (validState_any R M RS S _ (hM.below hs1.below) (hS.below hs1.below)).mono ?_
  rintro e u1 ⟨rfl, hb_1⟩
  refine ⟨_, rfl, hb_1, ?_⟩
  clear hs1
  refine al_p (q_not rfl) ?_
  refine al_p (q_move rfl) ?_
  refine aq_split 12 rfl (fun hb1 => ?_) (fun hb1 => ?_)
  · have hE : stepE M S ch pl = 1 := if_neg (fun h => by rw [h.1] at hb1; cases hb1)
    refine al_skip rfl rfl rfl ?_
    refine al_skip rfl rfl rfl ?_
    refine al_skip rfl rfl rfl ?_
    refine al_skip rfl rfl rfl ?_
    refine al_p (q_pickT rfl rfl) ?_
    refine al_end (aq_then ?_)
    refine ac_condT rfl ?_
    refine ac_seq (ac_region ?_)
    refine al_p (q_build .nil (kin_bl_apiState_)) ?_
    refine al_storeAll (i := 0) rfl rfl rfl rfl Tryz.sizeOf35 rfl rfl .k0 rfl ?_
    refine al_p (q_assign rfl) ?_
    refine al_end (aq_then ?_)
    refine ac_ret ?_
    refine aq_thenR ?_
    refine retR Tryz.results9 (.agg (i := 0) rfl rfl Tryz.isAgg35 Tryz.sizeOf35 rfl (.tmp rfl .nil)) .two (fun w9 hs => ?_)
    rw [hE]; exact OutS.bad (by decide) ⟨rfl, hs.below⟩
  · have hv : validS M S = true := by simpa using hb1
    have hf := fitS_iff.1 hv
    obtain ⟨s1, s2⟩ := smallC hM hf.cur.check
    refine al_p (q_loadAll (i := 3) rfl rfl Tryz.isAgg29 Tryz.sizeOf29 rfl) ?_
    refine al_p (q_loadAll (i := 1) rfl rfl Tryz.isAgg37 Tryz.sizeOf37 rfl) ?_
    refine al_call Tryz.call24 (.cons rfl (.cons rfl .nil)) rfl rfl (fun w2 hs2 => ?_)
    refine (validDrive_any R M A1 A2 l1 c1 l2 c2 ch pl _ (hM.below hs2.below) (i1.below hs2.below) (i2.below hs2.below) k2 (by omega) (by omega)).mono ?_
    rintro e u2 ⟨rfl, hb_2⟩
    refine ⟨_, rfl, hb_2, ?_⟩
    clear hs2
    refine al_p (q_not rfl) ?_
    refine al_p (q_pickF rfl rfl) ?_
    refine al_end (aq_then ?_)
    refine ac_cond rfl (fun h1 => ?_) (fun h1 => ?_)
    · have hE : stepE M S ch pl = 1 := if_neg (fun h => by rw [h.2.1, h.2.2] at h1; cases h1)
      refine ac_seq (ac_region ?_)
      refine al_p (q_build .nil (kin_bl_apiState_)) ?_
      refine al_storeAll (i := 0) rfl rfl rfl rfl Tryz.sizeOf35 rfl rfl .k0 rfl ?_
      refine al_p (q_assign rfl) ?_
      refine al_end (aq_then ?_)
      refine ac_ret ?_
      refine aq_thenR ?_
      refine retR Tryz.results9 (.agg (i := 0) rfl rfl Tryz.isAgg35 Tryz.sizeOf35 rfl (.tmp rfl .nil)) .two (fun w9 hs => ?_)
      rw [hE]; exact OutS.bad (by decide) ⟨rfl, hs.below⟩
    · have hd := (Bool.and_eq_true _ _).mp (show (validCh M ch 1000000000000000 && validPl M pl) = true by simpa using h1)
      have hE : stepE M S ch pl = repE S 1 := if_pos ⟨hv, hd.1, hd.2⟩
      refine ac_skip ?_
      refine aq_then ?_
      refine ac_seq (ac_region ?_)
      refine al_p (q_loadAll (i := 3) rfl rfl Tryz.isAgg29 Tryz.sizeOf29 rfl) ?_
      refine al_p (q_loadAll (i := 2) rfl rfl Tryz.isAgg35 Tryz.sizeOf35 rfl) ?_
      refine al_p (q_loadAll (i := 1) rfl rfl Tryz.isAgg37 Tryz.sizeOf37 rfl) ?_
      refine al_call Tryz.call25 (.cons rfl (.cons rfl (.cons rfl (.cons rfl .nil)))) rfl rfl (fun w3 hs3 => ?_)
      have hz := hs3.below.size
      refine (repeat_any R M RS S A1 A2 l1 c1 l2 c2 ch pl 1 _ (hM.below hs3.below) (hS.below hs3.below) hf (i1.below hs3.below) (i2.below hs3.below) (fitD_of hd.1 hd.2)).mono ?_
      rintro e u3 ⟨x9, n9, rfl, k1_, k2_, hb_3⟩
      refine ⟨_, rfl, hb_3, ?_⟩
      clear hs3
      refine al_p (q_extract rfl rfl) ?_
      refine al_p (q_extract rfl rfl) ?_
      refine al_storeAll (i := 0) rfl rfl rfl rfl Tryz.sizeOf35 rfl rfl .k0 rfl ?_
      refine al_p (q_assign rfl) ?_
      refine al_end (aq_then ?_)
      refine ac_ret ?_
      refine retR Tryz.results9 (.agg (i := 0) rfl rfl Tryz.isAgg35 Tryz.sizeOf35 rfl (.tmp rfl .nil)) .two (fun w9 hs => ?_)
      rw [hE]; exact outS_late hs (.head _) hz hs.below k1_ k2_

end Go.Proofs.YtkhahbnagbjbiaaGreat
end
section
/- slices.IndexFunc and ContainsFunc over []int, over this seat's translation (written by mk_mac.py). -/
namespace Go.Proofs.YtkhahbnagbjbiaaGreat
set_option linter.unusedVariables false
set_option linter.unusedSimpArgs false
open Go.RowKit

end Go.Proofs.YtkhahbnagbjbiaaGreat
end
section
/- Package circuit: Rest, Settle, over this seat's translation (written by ax_ci10.py). -/
namespace Go.Proofs.YtkhahbnagbjbiaaGreat
set_option linter.unusedVariables false
set_option linter.unusedSimpArgs false
open Go.RowKit

def restB (M : MachD) (S : StD) (heat : List Int) (k : Nat) : Prop := iA heat k < iA S.heat k ∧ (cA M k).cool = 0
instance (M : MachD) (S : StD) (heat : List Int) (k : Nat) : Decidable (restB M S heat k) := inferInstanceAs (Decidable (_ ∧ _))
end Go.Proofs.YtkhahbnagbjbiaaGreat
end
