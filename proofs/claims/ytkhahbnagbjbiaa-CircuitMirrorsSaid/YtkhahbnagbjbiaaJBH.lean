import Derived.Test.YtkhahbnagbjbiaaJAA
import Derived.Test.YtkhahbnagbjbiaaJAB
import Derived.Test.YtkhahbnagbjbiaaJBE
import Derived.Test.YtkhahbnagbjbiaaJBF
import Derived.Test.YtkhahbnagbjbiaaJBG
import Derived.Test.YtkhahbnagbjbiaaRows
import Derived.KernelRfl
import Derived.Laws.StructEq
import Derived.ProofKit
import Derived.OpenShut
import Derived.Lib.SmallJoins
import Derived.Deep.Slices
import Derived.Carry
section
/- The law CircuitMirrors, over this seat's translation (written by ax_ci29.py). -/
namespace Go.Proofs.Ytkhahbnagbjbiaa
set_option linter.unusedVariables false
set_option linter.unusedSimpArgs false
open Go.RowKit

def zeroMD : MachD := ⟨⟨#[]⟩, [], [], [], ⟨0, 0, 0, 0, 0⟩, []⟩
def zeroMR : MachR := ⟨none, none, none, none, 0, 0, 0, 0, 0, 0, 0, 0⟩
def mirK (M : MachD) (C : CurD) : Int := if validC M C = true then 0 else 1
def mirMM (M : MachD) (C : CurD) : MachD := if validC M C = true then mirM M else zeroMD
def mirCC (M : MachD) (C : CurD) : CurD := if validC M C = true then mirC M.grid C else ⟨[], [], []⟩
def Sml (R : MachR) (Q : CurR) : Prop := (R.la ≤ 1000 ∧ R.lb ≤ 1000 ∧ R.lc ≤ 1000 ∧ R.ld ≤ 1000) ∧ Q.la ≤ 1000 ∧ Q.lb ≤ 1000 ∧ Q.lc ≤ 1000
theorem newT_nil {α : Type} {z B : Nat} {enc : α → List Value} {w : World} : NewT z enc B w none 0 0 ([] : List α) := ⟨⟨rfl, fun h => absurd h (by omega)⟩, fun b o e => (by cases e), (by omega)⟩
theorem rmirror_all (R : MachR) (M : MachD) (Q : CurR) (C : CurD) (w : World) (hM : IsM w R M) (hC : IsC w Q C) : Calls Try.prog 11 #[.agg (machCells R M), Q.v] w (fun e w' => ∃ (R' : MachR) (Q' : CurR), e = .returned (.tuple #[.agg (machCells R' (mirMM M C)), Q'.v, .int .i64 (mirK M C)]) ∧ NewMT w.heap.size w' R' (mirMM M C) ∧ NewCT w.heap.size w' Q' (mirCC M C) ∧ Sml R' Q' ∧ Below w.heap.size w w') := by
  cases hv : validC M C with
  | true =>
    have hf := fit2_iff.1 hv
    refine (rmirror_ok R M Q C w hM hC hf).mono ?_
    rintro e w' ⟨R', Q', rfl, h1, h2, h3, h4, hb⟩
    have e1 : mirMM M C = mirM M := if_pos hv
    have e2 : mirCC M C = mirC M.grid C := if_pos hv
    have e3 : mirK M C = 0 := if_pos hv
    have hs0 := sound_of hf.check
    have hlo := limits_ok hf.check
    have a1 := hM.coils.1
    have a2 := hM.shells.1
    have a3 := hM.limits.1
    have a4 := hM.sensors.1
    have b1 := hs0.coils.1
    have b2 := hs0.shells.1
    have b3 := hlo.1
    have b4 := hs0.sensors.1
    have c1 := hC.coils.1
    have c2 := hC.shells.1
    have c3 := hC.plasma.1
    have d1 := hf.coils.1
    have d2 := hf.shells.1
    have d3 := hf.plasma.1
    have n8 := cellN_bd hf.check
    have n9 : (cellN M : Int) = M.grid.nr * M.grid.nz := by unfold cellN at n8 ⊢; omega
    rw [e1, e2, e3]
    exact ⟨R', Q', rfl, h1, h2, ⟨⟨by omega, by omega, by omega, by omega⟩, by omega, by omega, by omega⟩, hb⟩
  | false =>
    refine (rmirror_bad R M Q C w hM hC hv).mono ?_
    rintro e w' ⟨rfl, hb⟩
    have e1 : mirMM M C = zeroMD := if_neg (by rw [hv]; decide)
    have e2 : mirCC M C = ⟨[], [], []⟩ := if_neg (by rw [hv]; decide)
    have e3 : mirK M C = 1 := if_neg (by rw [hv]; decide)
    rw [e1, e2, e3]
    exact ⟨zeroMR, ⟨none, none, none, 0, 0, 0, 0, 0, 0⟩, rfl, ⟨newT_nil, newT_nil, newT_nil, newT_nil⟩, ⟨newT_nil, newT_nil, newT_nil⟩, ⟨⟨by decide, by decide, by decide, by decide⟩, by decide, by decide, by decide⟩, hb⟩
theorem rsameS_eq (P Q : StR) (S T : StD) (w : World) (h : S = T) (a1 : IsS w P S) (a2 : IsS w Q T) : Calls Try.prog 14 #[P.v S.tick, Q.v T.tick] w (Ret (.bool true) w) := by
  subst h
  have := rsameS_any P Q S S w a1 a2
  rwa [same_refl] at this
def mirT (M : MachD) (S : StD) : StD := ⟨S.tick, mirCC M S.C, S.heat, S.trip⟩
theorem mirT_eq {M : MachD} {S : StD} (h : FitS M S) : mirT M S = mirS M S := by
  unfold mirT mirS mirCC; rw [if_pos (fit2_iff.2 h.cur)]
theorem mir_all {M : MachD} {S : StD} {ch pl : List Int} (h : stepE M S ch pl = 0) : stepE (mirMM M S.C) (mirT M S) ch (turnL M.grid pl) = 0 ∧ mirK M (endD (stepE M S ch pl) (stepD M S ch pl)).C = 0 ∧ mirT M (endD (stepE M S ch pl) (stepD M S ch pl)) = endD (stepE (mirMM M S.C) (mirT M S) ch (turnL M.grid pl)) (stepD (mirMM M S.C) (mirT M S) ch (turnL M.grid pl)) := by
  obtain ⟨h1, h2, h3, h4⟩ := stepE_ok h
  have e1 : mirMM M S.C = mirM M := if_pos (fit2_iff.2 h1.cur)
  have e2 := stepE_mir h
  have e3 := stepE_fit h
  have e4 : endD (stepE M S ch pl) (stepD M S ch pl) = stepD M S ch pl := if_pos h
  rw [e1, mirT_eq h1, e2, e4, mirT_eq e3]
  refine ⟨rfl, if_pos (fit2_iff.2 e3.cur), ?_⟩
  rw [endD, if_pos rfl, step_mir h1 h3]

theorem kmb_bl_apiDrive_0_1 (a0 a1 : Value) (ha0 : a0.oneCell' = true) (ha1 : a1.oneCell' = true) : ∀ w, (Instr.build 37 #[(0, a0), (1, a1)]).run Try.prog w = .ok (.agg #[a0, a1]) w := by
  have ea0 : a0.cells = #[a0] := cells_one ha0
  have ea1 : a1.cells = #[a1] := cells_one ha1
  intro w; simp [Instr.build, Instr.fill, cells_agg, Try.runUnderlying37, Try.zeroValue37, Try.sizeOf30, ea0, ea1]

set_option maxRecDepth 100000 in
theorem mirrors3_walk (R : MachR) (M : MachD) (RS : StR) (S : StD) (A1 A2 : Option Addr) (l1 c1 l2 c2 : Nat) (ch pl : List Int) (w : World) (hM0 : R.la ≤ 1000000000000000 → R.lb ≤ 1000000000000000 → R.lc ≤ 1000000000000000 → R.ld ≤ 1000000000000000 → IsM w R M) (hS0 : RS.Q.la ≤ 1000000000000000 → RS.Q.lb ≤ 1000000000000000 → RS.Q.lc ≤ 1000000000000000 → RS.lh ≤ 1000000000000000 → IsS w RS S) (i1 : IsT 1 intCells w A1 l1 ch) (i2 : IsT 1 intCells w A2 l2 pl) (k1 : l1 ≤ c1 ∧ c1 ≤ 9223372036854775807) (k2 : l2 ≤ c2 ∧ c2 ≤ 9223372036854775807) : Calls Try.prog 4 #[(.agg (machCells R M)), (RS.v S.tick), (.agg #[.slice A1 l1 c1, .slice A2 l2 c2])] w (Ret (.bool true) w) := by
  refine calls_ax (vs := [(.agg (machCells R M)), (RS.v S.tick), (.agg #[.slice A1 l1 c1, .slice A2 l2 c2])]) Try.func4 rfl rfl ?_
  refine ac_seq ?_
  refine ac_region ?_
  refine al_new (fun b => .pointer (some ⟨b, 0, none⟩)) (r_box rfl rfl) rfl rfl rfl ?_
  intro b1
  refine al_new (fun b => .pointer (some ⟨b, 0, none⟩)) (r_box rfl rfl) rfl rfl rfl ?_
  intro b2
  refine al_new (fun b => .pointer (some ⟨b, 0, none⟩)) (r_box rfl rfl) rfl rfl rfl ?_
  intro b3
  refine al_q (q_assign rfl) rfl rfl rfl ?_
  refine al_end ?_
  refine aq_then ?_
  refine ac_seq ?_
  refine ac_seq ?_
  refine ac_region ?_
  refine al_q (q_loadAll (i := 2) rfl rfl Try.isAgg29 Try.sizeOf29 rfl) rfl rfl rfl ?_
  refine al_q (q_loadAll (i := 1) rfl rfl Try.isAgg35 Try.sizeOf35 rfl) rfl rfl rfl ?_
  refine al_call Try.call5 (.cons rfl (.cons rfl .nil)) rfl rfl (fun w1 hs1 => ?_)
  refine (brief3_any R M RS S _).mono ?_
  rintro e u1 ⟨bb, rfl, hbb, hb_1⟩
  refine ⟨_, rfl, hb_1, ?_⟩
  clear hs1
  refine al_q (q_not rfl) rfl rfl rfl ?_
  refine al_end ?_
  refine aq_then ?_
  refine ac_cond rfl (fun h1 => ?_) (fun h1 => ?_)
  · skip
    refine ac_seq ?_
    refine ac_region ?_
    refine al_call Try.call6 .nil rfl rfl (fun w2 hs2 => ?_)
    refine (awake3_any _).mono ?_
    rintro e u2 ⟨rfl, hb_2⟩
    refine ⟨_, rfl, hb_2, ?_⟩
    clear hs2
    refine al_q (q_assign rfl) rfl rfl rfl ?_
    refine al_end ?_
    refine aq_then ?_
    refine ac_ret ?_
    refine aq_thenR ?_
    refine ret1 Try.results4 rfl (fun w9 hs => ?_)
    exact ⟨rfl, hs.below⟩
  · have hB := hbb (by simpa using h1)
    obtain ⟨⟨m1, m2, m3, m4⟩, m5, m6, m7, m8⟩ := hB
    have hM := hM0 (by omega) (by omega) (by omega) (by omega)
    have hS := hS0 (by omega) (by omega) (by omega) (by omega)
    refine ac_skip ?_
    refine aq_then ?_
    refine ac_seq ?_
    refine ac_region ?_
    refine al_q (q_loadAll (i := 2) rfl rfl Try.isAgg29 Try.sizeOf29 rfl) rfl rfl rfl ?_
    refine al_q (q_loadAll (i := 1) rfl rfl Try.isAgg35 Try.sizeOf35 rfl) rfl rfl rfl ?_
    refine al_q (q_loadAll (i := 0) rfl rfl Try.isAgg37 Try.sizeOf37 rfl) rfl rfl rfl ?_
    refine al_call Try.call10 (.cons rfl (.cons rfl (.cons rfl .nil))) rfl rfl (fun w3 hs3 => ?_)
    refine (cstep_any R M RS S A1 A2 l1 c1 l2 c2 ch pl _ (hM.below hs3.below) (hS.below hs3.below) (i1.below hs3.below) (i2.below hs3.below) k2).mono ?_
    rintro e u3 ⟨x, nx, rfl, k1_, k2_, hb_3⟩
    obtain ⟨rfl, X_x, N_x⟩ := outS_data k1_ k2_
    refine ⟨_, rfl, hb_3, ?_⟩
    clear hs3
    refine al_q (q_move rfl) rfl rfl rfl ?_
    refine al_q (q_extract rfl rfl) rfl rfl rfl ?_
    refine al_q (q_extract rfl rfl) rfl rfl rfl ?_
    refine al_new (fun b => .pointer (some ⟨b, 0, none⟩)) (r_alloc Try.zeroValue35 rfl) rfl rfl rfl ?_
    intro b4
    refine al_storeAll (i := 0) rfl rfl rfl rfl Try.sizeOf35 rfl rfl .k0 rfl ?_
    refine al_q (q_assign rfl) rfl rfl rfl ?_
    refine al_end ?_
    refine aq_then ?_
    refine ac_seq ?_
    refine ac_region ?_
    refine al_q (q_loadAll (i := 3) rfl rfl Try.isAgg29 Try.sizeOf29 rfl) rfl rfl rfl ?_
    refine al_q (q_fieldAddr 1 rfl Try.runUnderlying35 rfl Try.sizeOf32 (by decide) rfl) rfl rfl rfl ?_
    refine al_q (q_loadSub (i := 2) rfl rfl Try.isAgg32 Try.sizeOf32 .k1 .k3) rfl rfl rfl ?_
    refine al_call Try.call11 (.cons rfl (.cons rfl .nil)) rfl rfl (fun w4 hs4 => ?_)
    refine (rmirror_all R M RS.Q S.C _ (hM.below hs4.below) (hS.cur.below hs4.below)).mono ?_
    rintro e u4 ⟨R1, Q1, rfl, NM1, NC1, ⟨⟨zu1, zu2, zu3, zu4⟩, zu5, zu6, zu7⟩, hb_4⟩
    refine ⟨_, rfl, hb_4, ?_⟩
    clear hs4
    refine al_q (q_move rfl) rfl rfl rfl ?_
    refine al_q (q_extract rfl rfl) rfl rfl rfl ?_
    refine al_q (q_extract rfl rfl) rfl rfl rfl ?_
    refine al_q (q_extract rfl rfl) rfl rfl rfl ?_
    refine al_new (fun b => .pointer (some ⟨b, 0, none⟩)) (r_alloc Try.zeroValue29 rfl) rfl rfl rfl ?_
    intro b5
    refine al_new (fun b => .pointer (some ⟨b, 0, none⟩)) (r_alloc Try.zeroValue32 rfl) rfl rfl rfl ?_
    intro b6
    refine al_storeAll (i := 1) rfl rfl rfl rfl Try.sizeOf29 rfl rfl .k1 rfl ?_
    refine al_storeAll (i := 0) rfl rfl rfl rfl Try.sizeOf32 rfl rfl .k0 rfl ?_
    refine al_q (q_assign rfl) rfl rfl rfl ?_
    refine al_end ?_
    refine aq_then ?_
    refine ac_seq ?_
    refine ac_seq ?_
    refine ac_region ?_
    refine al_q (q_move rfl) rfl rfl rfl ?_
    refine al_q (q_neq rfl rfl) rfl rfl rfl ?_
    refine al_q (q_move rfl) rfl rfl rfl ?_
    refine aq_split 39 rfl (fun hb1 => ?_) (fun hb1 => ?_)
    · skip
      refine al_skip rfl rfl rfl ?_
      refine al_skip rfl rfl rfl ?_
      refine al_q (q_pickT rfl rfl) rfl rfl rfl ?_
      refine al_end ?_
      refine aq_then ?_
      refine ac_condT rfl ?_
      refine ac_seq ?_
      refine ac_region ?_
      refine al_call Try.call6 .nil rfl rfl (fun w5 hs5 => ?_)
      refine (awake3_any _).mono ?_
      rintro e u5 ⟨rfl, hb_5⟩
      refine ⟨_, rfl, hb_5, ?_⟩
      clear hs5
      refine al_q (q_assign rfl) rfl rfl rfl ?_
      refine al_end ?_
      refine aq_then ?_
      refine ac_ret ?_
      refine aq_thenR ?_
      refine ret1 Try.results4 rfl (fun w9 hs => ?_)
      exact ⟨rfl, hs.below⟩
    · have hE : stepE M S ch pl = 0 := by simpa using hb1
      obtain ⟨hf, hch, hfp, htk⟩ := stepE_ok hE
      have hall := mir_all hE
      have hk0 : mirK M S.C = 0 := if_pos (fit2_iff.2 hf.cur)
      have hgf := (sound_of hf.cur.check).grid
      have hpl := hfp.plasma.1
      obtain ⟨s1, s2⟩ := smallC hM hf.cur.check
      have s3 := cellN_bd hf.cur.check
      have s4 := hf.cur.plasma.1
      have s5 := hS.cur.plasma.1
      have s6 : RS.Q.lc ≤ 64 := by unfold cellN at s3; omega
      have s7 := hS.cur.coils.1
      have s8 := hS.cur.shells.1
      have s9 := hS.heat.1
      have s10 := hS.trip.1
      have s11 := hf.cur.coils.1
      have s12 := hf.cur.shells.1
      have s13 := hf.heat.1
      have s14 := hf.trip
      have s15 := hM.coils.1
      have s16 := hM.shells.1
      refine al_q (q_move rfl) rfl rfl rfl ?_
      refine al_q (q_same (v' := .bool false) (q_neq rfl rfl) (by rw [hk0]; rfl)) rfl rfl rfl ?_
      refine al_q (q_pickF rfl rfl) rfl rfl rfl ?_
      refine al_end ?_
      refine aq_then ?_
      refine ac_condF rfl ?_
      refine ac_skip ?_
      refine aq_then ?_
      refine ac_seq ?_
      refine ac_region ?_
      refine al_q (q_loadAll (i := 4) rfl rfl Try.isAgg35 Try.sizeOf35 rfl) rfl rfl rfl ?_
      refine al_call Try.call12 (.cons rfl .nil) rfl rfl (fun w6 hs6 => ?_)
      refine (rcopy_any RS S _ (hS.below hs6.below) (by omega) (by omega) (by omega) (by omega) (by omega)).mono ?_
      rintro e u6 ⟨b, rfl, X_b, N_b, hb_6⟩
      refine ⟨_, rfl, hb_6, ?_⟩
      clear hs6
      refine al_new (fun b => .pointer (some ⟨b, 0, none⟩)) (r_alloc Try.zeroValue35 rfl) rfl rfl rfl ?_
      intro b7
      refine al_storeAll (i := 0) rfl rfl rfl rfl Try.sizeOf35 rfl rfl .k0 rfl ?_
      refine al_end ?_
      refine aq_then ?_
      refine ac_seq ?_
      refine ac_region ?_
      refine al_q (q_loadAll (i := 1) rfl rfl Try.isAgg32 Try.sizeOf32 rfl) rfl rfl rfl ?_
      refine al_q (q_fieldAddr 1 rfl Try.runUnderlying35 rfl Try.sizeOf32 (by decide) rfl) rfl rfl rfl ?_
      refine al_storeSub (i := 0) rfl rfl rfl Try.sizeOf32 rfl (.s (.z (.s (.s (.s (.z)))))) rfl .k0 rfl ?_
      refine al_end ?_
      refine aq_then ?_
      refine ac_seq ?_
      refine ac_draw 16 (by kernel_rfl) (by kernel_rfl) ?_
      refine ah_take 0 (fun w9 hs => hs) rfl rfl rfl (by kernel_rfl) (by kernel_rfl) (by kernel_rfl) (fun _ _ _ h => h) rfl (q_loadAll (i := 2) rfl rfl Try.isAgg29 Try.sizeOf29 rfl) ?_
      refine ah_take 1 (fun w9 hs => hs) rfl rfl rfl (by kernel_rfl) (by kernel_rfl) (by kernel_rfl) (fun _ _ _ h => h) rfl (q_loadAll (i := 0) rfl rfl Try.isAgg35 Try.sizeOf35 rfl) ?_
      refine ah_take 2 (fun w9 hs => hs) rfl rfl rfl (by kernel_rfl) (by kernel_rfl) (by kernel_rfl) (fun _ _ _ h => h) rfl (q_fieldAddr 0 rfl Try.runUnderlying37 rfl Try.sizeOf30 (by decide) rfl) ?_
      refine ah_take 3 (fun w9 hs => hs) rfl rfl rfl (by kernel_rfl) (by kernel_rfl) (by kernel_rfl) (fun _ _ _ h => h) rfl (q_load (i := 4) rfl rfl rfl Try.isAgg30) ?_
      refine ah_take 4 (fun w9 hs => hs) rfl rfl rfl (by kernel_rfl) (by kernel_rfl) (by kernel_rfl) (fun _ _ _ h => h) rfl (q_fieldAddr 4 rfl Try.runUnderlying29 rfl Try.sizeOf26 (by decide) rfl) ?_
      refine ah_take 5 (fun w9 hs => hs) rfl rfl rfl (by kernel_rfl) (by kernel_rfl) (by kernel_rfl) (fun _ _ _ h => h) rfl (q_loadSub (i := 6) rfl rfl Try.isAgg26 Try.sizeOf26 .k4 .k5) ?_
      refine ah_take 6 (fun w9 hs => hs) rfl rfl rfl (by kernel_rfl) (by kernel_rfl) (by kernel_rfl) (fun _ _ _ h => h) rfl (q_fieldAddr 1 rfl Try.runUnderlying37 rfl Try.sizeOf30 (by decide) rfl) ?_
      refine ah_take 7 (fun w9 hs => hs) rfl rfl rfl (by kernel_rfl) (by kernel_rfl) (by kernel_rfl) (fun _ _ _ h => h) rfl (q_load (i := 4) rfl rfl rfl Try.isAgg30) ?_
      refine ah_two 8 14 rfl rfl  (by kernel_rfl) (fun hok1 hcl1 => ?_) (fun hok1 hcl1 => ?_)
      · refine al_call Try.call13 (.cons rfl (.cons rfl .nil)) rfl rfl (fun w7 hs7 => ?_)
        refine (rturned_any M.grid A2 l2 c2 pl _ (i2.below hs7.below) hgf hpl).mono ?_
        rintro e u7 ⟨A3, c3, rfl, N3, hb_7⟩
        refine ⟨_, rfl, hb_7, ?_⟩
        clear hs7
        refine al_end (ah_back hok1 hcl1 (fun w9 hs => (hs.fewer 1 rfl)) ?_)
        refine ah_take 9 (fun w9 hs => (hs.fewer 1 rfl)) rfl rfl rfl (by kernel_rfl) (by kernel_rfl) (by kernel_rfl) (fun _ _ _ h => h) rfl (q_build (.cons rfl (.cons rfl .nil)) (kmb_bl_apiDrive_0_1 _ _ rfl rfl)) ?_
        refine ah_two 10 14 rfl rfl  (by kernel_rfl) (fun hok2 hcl2 => ?_) (fun hok2 hcl2 => ?_)
        · refine al_call Try.call10 (.cons rfl (.cons rfl (.cons rfl .nil))) rfl rfl (fun w8 hs8 => ?_)
          refine (cstep_any R1 (mirMM M S.C) ⟨Q1, b.H, b.T, b.lh, b.ch, b.lt, b.ct⟩ (mirT M S) A1 A3 l1 c1 l2 c3 ch (turnL M.grid pl) _ (hs8.newMT (.tail _ (.tail _ (.head _))) NM1 (by omega) (by omega) (by omega) (by omega)) ⟨hs8.newCT (.tail _ (.tail _ (.head _))) NC1 (Nat.le_trans zu5 (by decide : 1000 ≤ 1000000000000000)) (Nat.le_trans zu6 (by decide : 1000 ≤ 1000000000000000)) (Nat.le_trans zu7 (by decide : 1000 ≤ 1000000000000000)), (hs8.isS (.tail _ (.head _)) X_b N_b).heat, (hs8.isS (.tail _ (.head _)) X_b N_b).trip, (hs8.isS (.tail _ (.head _)) X_b N_b).lh, (hs8.isS (.tail _ (.head _)) X_b N_b).lt, (hs8.isS (.tail _ (.head _)) X_b N_b).ch, (hs8.isS (.tail _ (.head _)) X_b N_b).ct, (hs8.isS (.tail _ (.head _)) X_b N_b).kh, (hs8.isS (.tail _ (.head _)) X_b N_b).kt⟩ (i1.below hs8.below) (hs8.newT (.head _) N3) N3.le).mono ?_
          rintro e u8 ⟨y, ny, rfl, k1_, k2_, hb_8⟩
          obtain ⟨rfl, X_y, N_y⟩ := outS_data k1_ k2_
          refine ⟨_, rfl, hb_8, ?_⟩
          clear hs8
          refine al_end (ah_back hok2 hcl2 (fun w9 hs => (hs.fewer 2 rfl)) ?_)
          refine ah_take 11 (fun w9 hs => (hs.fewer 2 rfl)) rfl rfl rfl (by kernel_rfl) (by kernel_rfl) (by kernel_rfl) (fun _ _ _ h => h) rfl (q_move rfl) ?_
          refine ah_take 12 (fun w9 hs => (hs.fewer 2 rfl)) rfl rfl rfl (by kernel_rfl) (by kernel_rfl) (by kernel_rfl) (fun _ _ _ h => h) rfl (q_extract rfl rfl) ?_
          refine ah_take 13 (fun w9 hs => (hs.fewer 2 rfl)) rfl rfl rfl (by kernel_rfl) (by kernel_rfl) (by kernel_rfl) (fun _ _ _ h => h) rfl (q_extract rfl rfl) ?_
          refine ah_one 14 rfl (by kernel_rfl) (fun hok3 hcl3 => ?_)
          refine al_new (fun b => .pointer (some ⟨b, 0, none⟩)) (r_alloc Try.zeroValue35 rfl) rfl rfl rfl ?_
          intro b8
          refine al_end (ah_back hok3 hcl3 (fun w9 hs => ((hs.fewer 2 rfl).tail 1 rfl)) ?_)
          refine ah_one 15 rfl (by kernel_rfl) (fun hok4 hcl4 => ?_)
          refine al_storeAll (i := 0) rfl rfl rfl rfl Try.sizeOf35 rfl rfl .k0 rfl ?_
          refine al_end (ah_back hok4 hcl4 (fun w9 hs => ((hs.fewer 2 rfl).tail 1 rfl)) ?_)
          refine ah_take 16 (fun w9 hs => ((hs.fewer 2 rfl).tail 1 rfl)) rfl rfl rfl (by kernel_rfl) (by kernel_rfl) (by kernel_rfl) (fun _ _ _ h => h) rfl (q_assign rfl) ?_
          refine ah_done (by kernel_rfl) ?_
          refine aq_then ?_
          refine ac_seq ?_
          refine ac_region ?_
          refine al_q (q_loadAll (i := 7) rfl rfl Try.isAgg29 Try.sizeOf29 rfl) rfl rfl rfl ?_
          refine al_q (q_fieldAddr 1 rfl Try.runUnderlying35 rfl Try.sizeOf32 (by decide) rfl) rfl rfl rfl ?_
          refine al_q (q_loadSub (i := 4) rfl rfl Try.isAgg32 Try.sizeOf32 .k1 .k3) rfl rfl rfl ?_
          refine al_call Try.call11 (.cons rfl (.cons rfl .nil)) rfl rfl (fun w9 hs9 => ?_)
          refine (rmirror_all R M x.Q (endD (stepE M S ch pl) (stepD M S ch pl)).C _ (hM.below hs9.below) (hs9.isS (.tail _ (.tail _ (.tail _ (.tail _ (.head _))))) X_x N_x).cur).mono ?_
          rintro e u9 ⟨R2, Q2, rfl, NM2, NC2, ⟨⟨zv1, zv2, zv3, zv4⟩, zv5, zv6, zv7⟩, hb_9⟩
          refine ⟨_, rfl, hb_9, ?_⟩
          clear hs9
          refine al_q (q_move rfl) rfl rfl rfl ?_
          refine al_q (q_extract rfl rfl) rfl rfl rfl ?_
          refine al_q (q_extract rfl rfl) rfl rfl rfl ?_
          refine al_q (q_extract rfl rfl) rfl rfl rfl ?_
          refine al_new (fun b => .pointer (some ⟨b, 0, none⟩)) (r_alloc Try.zeroValue29 rfl) rfl rfl rfl ?_
          intro b9
          refine al_storeAll (i := 0) rfl rfl rfl rfl Try.sizeOf29 rfl rfl .k0 rfl ?_
          refine al_storeAll (i := 3) rfl rfl rfl rfl Try.sizeOf32 rfl rfl .k3 rfl ?_
          refine al_q (q_assign rfl) rfl rfl rfl ?_
          refine al_end ?_
          refine aq_then ?_
          refine ac_seq ?_
          refine ac_region ?_
          refine al_q (q_loadAll (i := 3) rfl rfl Try.isAgg32 Try.sizeOf32 rfl) rfl rfl rfl ?_
          refine al_q (q_fieldAddr 1 rfl Try.runUnderlying35 rfl Try.sizeOf32 (by decide) rfl) rfl rfl rfl ?_
          refine al_storeSub (i := 5) rfl rfl rfl Try.sizeOf32 rfl (.s (.z (.s (.s (.s (.z)))))) rfl .k5 rfl ?_
          refine al_end ?_
          refine aq_then ?_
          refine ac_seq ?_
          refine ac_region ?_
          refine al_q (q_move rfl) rfl rfl rfl ?_
          refine al_q (q_same (v' := .bool true) (q_eql rfl rfl) (by rw [hall.1]; rfl)) rfl rfl rfl ?_
          refine al_q (q_move rfl) rfl rfl rfl ?_
          refine al_q (q_move rfl) rfl rfl rfl ?_
          refine al_q (q_same (v' := .bool true) (q_eql rfl rfl) (by rw [hall.2.1]; rfl)) rfl rfl rfl ?_
          refine al_q (q_pickT rfl rfl) rfl rfl rfl ?_
          refine al_q (q_move rfl) rfl rfl rfl ?_
          refine al_q (q_loadAll (i := 5) rfl rfl Try.isAgg35 Try.sizeOf35 rfl) rfl rfl rfl ?_
          refine al_q (q_loadAll (i := 1) rfl rfl Try.isAgg35 Try.sizeOf35 rfl) rfl rfl rfl ?_
          refine al_call Try.call14 (.cons rfl (.cons rfl .nil)) rfl rfl (fun w10 hs10 => ?_)
          refine (rsameS_eq ⟨Q2, x.H, x.T, x.lh, x.ch, x.lt, x.ct⟩ y (mirT M (endD (stepE M S ch pl) (stepD M S ch pl))) (endD (stepE (mirMM M S.C) (mirT M S) ch (turnL M.grid pl)) (stepD (mirMM M S.C) (mirT M S) ch (turnL M.grid pl))) _ hall.2.2 ⟨hs10.newCT (.head _) NC2 (Nat.le_trans zv5 (by decide : 1000 ≤ 1000000000000000)) (Nat.le_trans zv6 (by decide : 1000 ≤ 1000000000000000)) (Nat.le_trans zv7 (by decide : 1000 ≤ 1000000000000000)), (hs10.isS (.tail _ (.tail _ (.tail _ (.tail _ (.tail _ (.head _)))))) X_x N_x).heat, (hs10.isS (.tail _ (.tail _ (.tail _ (.tail _ (.tail _ (.head _)))))) X_x N_x).trip, (hs10.isS (.tail _ (.tail _ (.tail _ (.tail _ (.tail _ (.head _)))))) X_x N_x).lh, (hs10.isS (.tail _ (.tail _ (.tail _ (.tail _ (.tail _ (.head _)))))) X_x N_x).lt, (hs10.isS (.tail _ (.tail _ (.tail _ (.tail _ (.tail _ (.head _)))))) X_x N_x).ch, (hs10.isS (.tail _ (.tail _ (.tail _ (.tail _ (.tail _ (.head _)))))) X_x N_x).ct, (hs10.isS (.tail _ (.tail _ (.tail _ (.tail _ (.tail _ (.head _)))))) X_x N_x).kh, (hs10.isS (.tail _ (.tail _ (.tail _ (.tail _ (.tail _ (.head _)))))) X_x N_x).kt⟩ (hs10.isS (.tail _ (.head _)) X_y N_y)).mono ?_
          rintro e u10 ⟨rfl, hb_10⟩
          refine ⟨_, rfl, hb_10, ?_⟩
          clear hs10
          refine al_q (q_pickT rfl rfl) rfl rfl rfl ?_
          refine al_q (q_move rfl) rfl rfl rfl ?_
          refine al_call Try.call6 .nil rfl rfl (fun w11 hs11 => ?_)
          refine (awake3_any _).mono ?_
          rintro e u11 ⟨rfl, hb_11⟩
          refine ⟨_, rfl, hb_11, ?_⟩
          clear hs11
          refine al_q (q_pickT rfl rfl) rfl rfl rfl ?_
          refine al_q (q_assign rfl) rfl rfl rfl ?_
          refine al_end ?_
          refine aq_then ?_
          refine aq_keepL [6] (.cons rfl .nil) ?_
          refine ac_ret ?_
          refine ret1 Try.results4 rfl (fun w9 hs => ?_)
          exact ⟨rfl, hs.below⟩
        · refine al_new (fun b => .pointer (some ⟨b, 0, none⟩)) (r_alloc Try.zeroValue35 rfl) rfl rfl rfl ?_
          intro b10
          refine al_end (ah_back hok2 hcl2 (fun w9 hs => ((hs.fewer 1 rfl).tail 1 rfl)) ?_)
          refine ah_one 10 rfl (by kernel_rfl) (fun hok5 hcl5 => ?_)
          refine al_call Try.call10 (.cons rfl (.cons rfl (.cons rfl .nil))) rfl rfl (fun w12 hs12 => ?_)
          refine (cstep_any R1 (mirMM M S.C) ⟨Q1, b.H, b.T, b.lh, b.ch, b.lt, b.ct⟩ (mirT M S) A1 A3 l1 c1 l2 c3 ch (turnL M.grid pl) _ (hs12.newMT (.tail _ (.tail _ (.head _))) NM1 (by omega) (by omega) (by omega) (by omega)) ⟨hs12.newCT (.tail _ (.tail _ (.head _))) NC1 (Nat.le_trans zu5 (by decide : 1000 ≤ 1000000000000000)) (Nat.le_trans zu6 (by decide : 1000 ≤ 1000000000000000)) (Nat.le_trans zu7 (by decide : 1000 ≤ 1000000000000000)), (hs12.isS (.tail _ (.head _)) X_b N_b).heat, (hs12.isS (.tail _ (.head _)) X_b N_b).trip, (hs12.isS (.tail _ (.head _)) X_b N_b).lh, (hs12.isS (.tail _ (.head _)) X_b N_b).lt, (hs12.isS (.tail _ (.head _)) X_b N_b).ch, (hs12.isS (.tail _ (.head _)) X_b N_b).ct, (hs12.isS (.tail _ (.head _)) X_b N_b).kh, (hs12.isS (.tail _ (.head _)) X_b N_b).kt⟩ (i1.below hs12.below) (hs12.newT (.head _) N3) N3.le).mono ?_
          rintro e u12 ⟨y, ny, rfl, k1_, k2_, hb_12⟩
          obtain ⟨rfl, X_y, N_y⟩ := outS_data k1_ k2_
          refine ⟨_, rfl, hb_12, ?_⟩
          clear hs12
          refine al_end (ah_back hok5 hcl5 (fun w9 hs => ((hs.fewer 2 rfl).tail 1 rfl)) ?_)
          refine ah_take 11 (fun w9 hs => ((hs.fewer 2 rfl).tail 1 rfl)) rfl rfl rfl (by kernel_rfl) (by kernel_rfl) (by kernel_rfl) (fun _ _ _ h => h) rfl (q_move rfl) ?_
          refine ah_take 12 (fun w9 hs => ((hs.fewer 2 rfl).tail 1 rfl)) rfl rfl rfl (by kernel_rfl) (by kernel_rfl) (by kernel_rfl) (fun _ _ _ h => h) rfl (q_extract rfl rfl) ?_
          refine ah_take 13 (fun w9 hs => ((hs.fewer 2 rfl).tail 1 rfl)) rfl rfl rfl (by kernel_rfl) (by kernel_rfl) (by kernel_rfl) (fun _ _ _ h => h) rfl (q_extract rfl rfl) ?_
          refine ah_one 15 rfl (by kernel_rfl) (fun hok6 hcl6 => ?_)
          refine al_storeAll (i := 0) rfl rfl rfl rfl Try.sizeOf35 rfl rfl .k0 rfl ?_
          refine al_end (ah_back hok6 hcl6 (fun w9 hs => ((hs.fewer 2 rfl).tail 1 rfl)) ?_)
          refine ah_take 16 (fun w9 hs => ((hs.fewer 2 rfl).tail 1 rfl)) rfl rfl rfl (by kernel_rfl) (by kernel_rfl) (by kernel_rfl) (fun _ _ _ h => h) rfl (q_assign rfl) ?_
          refine ah_done (by kernel_rfl) ?_
          refine aq_then ?_
          refine ac_seq ?_
          refine ac_region ?_
          refine al_q (q_loadAll (i := 7) rfl rfl Try.isAgg29 Try.sizeOf29 rfl) rfl rfl rfl ?_
          refine al_q (q_fieldAddr 1 rfl Try.runUnderlying35 rfl Try.sizeOf32 (by decide) rfl) rfl rfl rfl ?_
          refine al_q (q_loadSub (i := 4) rfl rfl Try.isAgg32 Try.sizeOf32 .k1 .k3) rfl rfl rfl ?_
          refine al_call Try.call11 (.cons rfl (.cons rfl .nil)) rfl rfl (fun w13 hs13 => ?_)
          refine (rmirror_all R M x.Q (endD (stepE M S ch pl) (stepD M S ch pl)).C _ (hM.below hs13.below) (hs13.isS (.tail _ (.tail _ (.tail _ (.tail _ (.head _))))) X_x N_x).cur).mono ?_
          rintro e u13 ⟨R2, Q2, rfl, NM2, NC2, ⟨⟨zv1, zv2, zv3, zv4⟩, zv5, zv6, zv7⟩, hb_13⟩
          refine ⟨_, rfl, hb_13, ?_⟩
          clear hs13
          refine al_q (q_move rfl) rfl rfl rfl ?_
          refine al_q (q_extract rfl rfl) rfl rfl rfl ?_
          refine al_q (q_extract rfl rfl) rfl rfl rfl ?_
          refine al_q (q_extract rfl rfl) rfl rfl rfl ?_
          refine al_new (fun b => .pointer (some ⟨b, 0, none⟩)) (r_alloc Try.zeroValue29 rfl) rfl rfl rfl ?_
          intro b11
          refine al_storeAll (i := 0) rfl rfl rfl rfl Try.sizeOf29 rfl rfl .k0 rfl ?_
          refine al_storeAll (i := 3) rfl rfl rfl rfl Try.sizeOf32 rfl rfl .k3 rfl ?_
          refine al_q (q_assign rfl) rfl rfl rfl ?_
          refine al_end ?_
          refine aq_then ?_
          refine ac_seq ?_
          refine ac_region ?_
          refine al_q (q_loadAll (i := 3) rfl rfl Try.isAgg32 Try.sizeOf32 rfl) rfl rfl rfl ?_
          refine al_q (q_fieldAddr 1 rfl Try.runUnderlying35 rfl Try.sizeOf32 (by decide) rfl) rfl rfl rfl ?_
          refine al_storeSub (i := 5) rfl rfl rfl Try.sizeOf32 rfl (.s (.z (.s (.s (.s (.z)))))) rfl .k5 rfl ?_
          refine al_end ?_
          refine aq_then ?_
          refine ac_seq ?_
          refine ac_region ?_
          refine al_q (q_move rfl) rfl rfl rfl ?_
          refine al_q (q_same (v' := .bool true) (q_eql rfl rfl) (by rw [hall.1]; rfl)) rfl rfl rfl ?_
          refine al_q (q_move rfl) rfl rfl rfl ?_
          refine al_q (q_move rfl) rfl rfl rfl ?_
          refine al_q (q_same (v' := .bool true) (q_eql rfl rfl) (by rw [hall.2.1]; rfl)) rfl rfl rfl ?_
          refine al_q (q_pickT rfl rfl) rfl rfl rfl ?_
          refine al_q (q_move rfl) rfl rfl rfl ?_
          refine al_q (q_loadAll (i := 5) rfl rfl Try.isAgg35 Try.sizeOf35 rfl) rfl rfl rfl ?_
          refine al_q (q_loadAll (i := 1) rfl rfl Try.isAgg35 Try.sizeOf35 rfl) rfl rfl rfl ?_
          refine al_call Try.call14 (.cons rfl (.cons rfl .nil)) rfl rfl (fun w14 hs14 => ?_)
          refine (rsameS_eq ⟨Q2, x.H, x.T, x.lh, x.ch, x.lt, x.ct⟩ y (mirT M (endD (stepE M S ch pl) (stepD M S ch pl))) (endD (stepE (mirMM M S.C) (mirT M S) ch (turnL M.grid pl)) (stepD (mirMM M S.C) (mirT M S) ch (turnL M.grid pl))) _ hall.2.2 ⟨hs14.newCT (.head _) NC2 (Nat.le_trans zv5 (by decide : 1000 ≤ 1000000000000000)) (Nat.le_trans zv6 (by decide : 1000 ≤ 1000000000000000)) (Nat.le_trans zv7 (by decide : 1000 ≤ 1000000000000000)), (hs14.isS (.tail _ (.tail _ (.tail _ (.tail _ (.tail _ (.head _)))))) X_x N_x).heat, (hs14.isS (.tail _ (.tail _ (.tail _ (.tail _ (.tail _ (.head _)))))) X_x N_x).trip, (hs14.isS (.tail _ (.tail _ (.tail _ (.tail _ (.tail _ (.head _)))))) X_x N_x).lh, (hs14.isS (.tail _ (.tail _ (.tail _ (.tail _ (.tail _ (.head _)))))) X_x N_x).lt, (hs14.isS (.tail _ (.tail _ (.tail _ (.tail _ (.tail _ (.head _)))))) X_x N_x).ch, (hs14.isS (.tail _ (.tail _ (.tail _ (.tail _ (.tail _ (.head _)))))) X_x N_x).ct, (hs14.isS (.tail _ (.tail _ (.tail _ (.tail _ (.tail _ (.head _)))))) X_x N_x).kh, (hs14.isS (.tail _ (.tail _ (.tail _ (.tail _ (.tail _ (.head _)))))) X_x N_x).kt⟩ (hs14.isS (.tail _ (.head _)) X_y N_y)).mono ?_
          rintro e u14 ⟨rfl, hb_14⟩
          refine ⟨_, rfl, hb_14, ?_⟩
          clear hs14
          refine al_q (q_pickT rfl rfl) rfl rfl rfl ?_
          refine al_q (q_move rfl) rfl rfl rfl ?_
          refine al_call Try.call6 .nil rfl rfl (fun w15 hs15 => ?_)
          refine (awake3_any _).mono ?_
          rintro e u15 ⟨rfl, hb_15⟩
          refine ⟨_, rfl, hb_15, ?_⟩
          clear hs15
          refine al_q (q_pickT rfl rfl) rfl rfl rfl ?_
          refine al_q (q_assign rfl) rfl rfl rfl ?_
          refine al_end ?_
          refine aq_then ?_
          refine ac_ret ?_
          refine ret1 Try.results4 rfl (fun w9 hs => ?_)
          exact ⟨rfl, hs.below⟩
      · refine al_new (fun b => .pointer (some ⟨b, 0, none⟩)) (r_alloc Try.zeroValue35 rfl) rfl rfl rfl ?_
        intro b12
        refine al_end (ah_back hok1 hcl1 (fun w9 hs => (hs.tail 1 rfl)) ?_)
        refine ah_one 8 rfl (by kernel_rfl) (fun hok7 hcl7 => ?_)
        refine al_call Try.call13 (.cons rfl (.cons rfl .nil)) rfl rfl (fun w16 hs16 => ?_)
        refine (rturned_any M.grid A2 l2 c2 pl _ (i2.below hs16.below) hgf hpl).mono ?_
        rintro e u16 ⟨A3, c3, rfl, N3, hb_16⟩
        refine ⟨_, rfl, hb_16, ?_⟩
        clear hs16
        refine al_end (ah_back hok7 hcl7 (fun w9 hs => ((hs.fewer 1 rfl).tail 1 rfl)) ?_)
        refine ah_take 9 (fun w9 hs => ((hs.fewer 1 rfl).tail 1 rfl)) rfl rfl rfl (by kernel_rfl) (by kernel_rfl) (by kernel_rfl) (fun _ _ _ h => h) rfl (q_build (.cons rfl (.cons rfl .nil)) (kmb_bl_apiDrive_0_1 _ _ rfl rfl)) ?_
        refine ah_one 10 rfl (by kernel_rfl) (fun hok8 hcl8 => ?_)
        refine al_call Try.call10 (.cons rfl (.cons rfl (.cons rfl .nil))) rfl rfl (fun w17 hs17 => ?_)
        refine (cstep_any R1 (mirMM M S.C) ⟨Q1, b.H, b.T, b.lh, b.ch, b.lt, b.ct⟩ (mirT M S) A1 A3 l1 c1 l2 c3 ch (turnL M.grid pl) _ (hs17.newMT (.tail _ (.tail _ (.head _))) NM1 (by omega) (by omega) (by omega) (by omega)) ⟨hs17.newCT (.tail _ (.tail _ (.head _))) NC1 (Nat.le_trans zu5 (by decide : 1000 ≤ 1000000000000000)) (Nat.le_trans zu6 (by decide : 1000 ≤ 1000000000000000)) (Nat.le_trans zu7 (by decide : 1000 ≤ 1000000000000000)), (hs17.isS (.tail _ (.head _)) X_b N_b).heat, (hs17.isS (.tail _ (.head _)) X_b N_b).trip, (hs17.isS (.tail _ (.head _)) X_b N_b).lh, (hs17.isS (.tail _ (.head _)) X_b N_b).lt, (hs17.isS (.tail _ (.head _)) X_b N_b).ch, (hs17.isS (.tail _ (.head _)) X_b N_b).ct, (hs17.isS (.tail _ (.head _)) X_b N_b).kh, (hs17.isS (.tail _ (.head _)) X_b N_b).kt⟩ (i1.below hs17.below) (hs17.newT (.head _) N3) N3.le).mono ?_
        rintro e u17 ⟨y, ny, rfl, k1_, k2_, hb_17⟩
        obtain ⟨rfl, X_y, N_y⟩ := outS_data k1_ k2_
        refine ⟨_, rfl, hb_17, ?_⟩
        clear hs17
        refine al_end (ah_back hok8 hcl8 (fun w9 hs => ((hs.fewer 2 rfl).tail 1 rfl)) ?_)
        refine ah_take 11 (fun w9 hs => ((hs.fewer 2 rfl).tail 1 rfl)) rfl rfl rfl (by kernel_rfl) (by kernel_rfl) (by kernel_rfl) (fun _ _ _ h => h) rfl (q_move rfl) ?_
        refine ah_take 12 (fun w9 hs => ((hs.fewer 2 rfl).tail 1 rfl)) rfl rfl rfl (by kernel_rfl) (by kernel_rfl) (by kernel_rfl) (fun _ _ _ h => h) rfl (q_extract rfl rfl) ?_
        refine ah_take 13 (fun w9 hs => ((hs.fewer 2 rfl).tail 1 rfl)) rfl rfl rfl (by kernel_rfl) (by kernel_rfl) (by kernel_rfl) (fun _ _ _ h => h) rfl (q_extract rfl rfl) ?_
        refine ah_one 15 rfl (by kernel_rfl) (fun hok9 hcl9 => ?_)
        refine al_storeAll (i := 0) rfl rfl rfl rfl Try.sizeOf35 rfl rfl .k0 rfl ?_
        refine al_end (ah_back hok9 hcl9 (fun w9 hs => ((hs.fewer 2 rfl).tail 1 rfl)) ?_)
        refine ah_take 16 (fun w9 hs => ((hs.fewer 2 rfl).tail 1 rfl)) rfl rfl rfl (by kernel_rfl) (by kernel_rfl) (by kernel_rfl) (fun _ _ _ h => h) rfl (q_assign rfl) ?_
        refine ah_done (by kernel_rfl) ?_
        refine aq_then ?_
        refine ac_seq ?_
        refine ac_region ?_
        refine al_q (q_loadAll (i := 7) rfl rfl Try.isAgg29 Try.sizeOf29 rfl) rfl rfl rfl ?_
        refine al_q (q_fieldAddr 1 rfl Try.runUnderlying35 rfl Try.sizeOf32 (by decide) rfl) rfl rfl rfl ?_
        refine al_q (q_loadSub (i := 4) rfl rfl Try.isAgg32 Try.sizeOf32 .k1 .k3) rfl rfl rfl ?_
        refine al_call Try.call11 (.cons rfl (.cons rfl .nil)) rfl rfl (fun w18 hs18 => ?_)
        refine (rmirror_all R M x.Q (endD (stepE M S ch pl) (stepD M S ch pl)).C _ (hM.below hs18.below) (hs18.isS (.tail _ (.tail _ (.tail _ (.tail _ (.head _))))) X_x N_x).cur).mono ?_
        rintro e u18 ⟨R2, Q2, rfl, NM2, NC2, ⟨⟨zv1, zv2, zv3, zv4⟩, zv5, zv6, zv7⟩, hb_18⟩
        refine ⟨_, rfl, hb_18, ?_⟩
        clear hs18
        refine al_q (q_move rfl) rfl rfl rfl ?_
        refine al_q (q_extract rfl rfl) rfl rfl rfl ?_
        refine al_q (q_extract rfl rfl) rfl rfl rfl ?_
        refine al_q (q_extract rfl rfl) rfl rfl rfl ?_
        refine al_new (fun b => .pointer (some ⟨b, 0, none⟩)) (r_alloc Try.zeroValue29 rfl) rfl rfl rfl ?_
        intro b13
        refine al_storeAll (i := 0) rfl rfl rfl rfl Try.sizeOf29 rfl rfl .k0 rfl ?_
        refine al_storeAll (i := 3) rfl rfl rfl rfl Try.sizeOf32 rfl rfl .k3 rfl ?_
        refine al_q (q_assign rfl) rfl rfl rfl ?_
        refine al_end ?_
        refine aq_then ?_
        refine ac_seq ?_
        refine ac_region ?_
        refine al_q (q_loadAll (i := 3) rfl rfl Try.isAgg32 Try.sizeOf32 rfl) rfl rfl rfl ?_
        refine al_q (q_fieldAddr 1 rfl Try.runUnderlying35 rfl Try.sizeOf32 (by decide) rfl) rfl rfl rfl ?_
        refine al_storeSub (i := 5) rfl rfl rfl Try.sizeOf32 rfl (.s (.z (.s (.s (.s (.z)))))) rfl .k5 rfl ?_
        refine al_end ?_
        refine aq_then ?_
        refine ac_seq ?_
        refine ac_region ?_
        refine al_q (q_move rfl) rfl rfl rfl ?_
        refine al_q (q_same (v' := .bool true) (q_eql rfl rfl) (by rw [hall.1]; rfl)) rfl rfl rfl ?_
        refine al_q (q_move rfl) rfl rfl rfl ?_
        refine al_q (q_move rfl) rfl rfl rfl ?_
        refine al_q (q_same (v' := .bool true) (q_eql rfl rfl) (by rw [hall.2.1]; rfl)) rfl rfl rfl ?_
        refine al_q (q_pickT rfl rfl) rfl rfl rfl ?_
        refine al_q (q_move rfl) rfl rfl rfl ?_
        refine al_q (q_loadAll (i := 5) rfl rfl Try.isAgg35 Try.sizeOf35 rfl) rfl rfl rfl ?_
        refine al_q (q_loadAll (i := 1) rfl rfl Try.isAgg35 Try.sizeOf35 rfl) rfl rfl rfl ?_
        refine al_call Try.call14 (.cons rfl (.cons rfl .nil)) rfl rfl (fun w19 hs19 => ?_)
        refine (rsameS_eq ⟨Q2, x.H, x.T, x.lh, x.ch, x.lt, x.ct⟩ y (mirT M (endD (stepE M S ch pl) (stepD M S ch pl))) (endD (stepE (mirMM M S.C) (mirT M S) ch (turnL M.grid pl)) (stepD (mirMM M S.C) (mirT M S) ch (turnL M.grid pl))) _ hall.2.2 ⟨hs19.newCT (.head _) NC2 (Nat.le_trans zv5 (by decide : 1000 ≤ 1000000000000000)) (Nat.le_trans zv6 (by decide : 1000 ≤ 1000000000000000)) (Nat.le_trans zv7 (by decide : 1000 ≤ 1000000000000000)), (hs19.isS (.tail _ (.tail _ (.tail _ (.tail _ (.tail _ (.head _)))))) X_x N_x).heat, (hs19.isS (.tail _ (.tail _ (.tail _ (.tail _ (.tail _ (.head _)))))) X_x N_x).trip, (hs19.isS (.tail _ (.tail _ (.tail _ (.tail _ (.tail _ (.head _)))))) X_x N_x).lh, (hs19.isS (.tail _ (.tail _ (.tail _ (.tail _ (.tail _ (.head _)))))) X_x N_x).lt, (hs19.isS (.tail _ (.tail _ (.tail _ (.tail _ (.tail _ (.head _)))))) X_x N_x).ch, (hs19.isS (.tail _ (.tail _ (.tail _ (.tail _ (.tail _ (.head _)))))) X_x N_x).ct, (hs19.isS (.tail _ (.tail _ (.tail _ (.tail _ (.tail _ (.head _)))))) X_x N_x).kh, (hs19.isS (.tail _ (.tail _ (.tail _ (.tail _ (.tail _ (.head _)))))) X_x N_x).kt⟩ (hs19.isS (.tail _ (.head _)) X_y N_y)).mono ?_
        rintro e u19 ⟨rfl, hb_19⟩
        refine ⟨_, rfl, hb_19, ?_⟩
        clear hs19
        refine al_q (q_pickT rfl rfl) rfl rfl rfl ?_
        refine al_q (q_move rfl) rfl rfl rfl ?_
        refine al_call Try.call6 .nil rfl rfl (fun w20 hs20 => ?_)
        refine (awake3_any _).mono ?_
        rintro e u20 ⟨rfl, hb_20⟩
        refine ⟨_, rfl, hb_20, ?_⟩
        clear hs20
        refine al_q (q_pickT rfl rfl) rfl rfl rfl ?_
        refine al_q (q_assign rfl) rfl rfl rfl ?_
        refine al_end ?_
        refine aq_then ?_
        refine ac_ret ?_
        refine ret1 Try.results4 rfl (fun w9 hs => ?_)
        exact ⟨rfl, hs.below⟩

end Go.Proofs.Ytkhahbnagbjbiaa
end
section
/- The frame of the laws over spans: how an argument that is a span or a Pair is opened and shut, over this seat's translation. -/
namespace Go.Proofs.Ytkhahbnagbjbiaa
set_option linter.unusedVariables false
set_option linter.unusedSimpArgs false
set_option maxRecDepth 100000
open Go.ChangeShapes Go.WideShapes Go.ChangeAt Go.RowKit Go.Joins

theorem own : ownKnob Try.prog.godebug = none := by kernel_rfl

theorem cells_int : Try.prog.cellsOf 3 = 1 := by kernel_rfl

section
variable {H : Type} {enc : TypeId × Value → H}

end

end Go.Proofs.Ytkhahbnagbjbiaa
end
section
/- The frame of the laws over pairs: how an argument that is a list of items of n cells is opened, over this seat's translation. -/
namespace Go.Proofs.Ytkhahbnagbjbiaa
set_option linter.unusedVariables false
set_option linter.unusedSimpArgs false
set_option maxRecDepth 100000
open Go.ChangeShapes Go.WideShapes Go.ChangeAt Go.RowKit Go.Joins Go.Deep

section
variable {H : Type} {enc : TypeId × Value → H}

/-- A list that reads is a list of items, where each item that reads is one. -/
theorem open_isT {α : Type} {E : α → List Value} {n : Nat} (h0 : ∀ x, (E x).length = n) {t e : TypeId} {W : World} {b0 : Nat} {r : Reach} {v : Value} {d : DataW H} {p : List MemPlace}
    (ht : Try.prog.underlying t = some (.slice e)) (hc : Try.prog.cellsOf e = n) (hn : 0 < n)
    (dec : ∀ (fuel : Nat) (cs : List Value) (y : DataW H × List MemPlace), DataW.trod enc Try.prog W 0 (fun _ => true) true fuel e cs = some y → ∃ x : α, cs = E x)
    (hv : Value.okWide Try.prog W r b0 t v) (h : DataW.Trod enc Try.prog W 0 (fun _ => true) true t v d p) :
    ∃ (A : Option Addr) (len cap : Nat) (zs : List α), v = .slice A len cap ∧ IsT n E W A len zs ∧ len ≤ maxLen ∧ len ≤ cap ∧ cap ≤ maxLen := by
  obtain ⟨a, len, cap, rfl⟩ := okWide_slice ht hv
  obtain ⟨fuel, hf⟩ := h
  rcases open_slice ht hf with ⟨hcs, hx⟩ | ⟨a', len', cap', m, k, D, Pl, hcs, hb, hl, hm, hmm, hx, hi⟩
  · have hcs : [Value.slice a len cap] = [Value.slice none 0 0] := hcs
    injection hcs with hcs _
    injection hcs with e1 e2 e3
    subst e1 e2 e3
    exact ⟨_, _, _, [], rfl, IsT.nil _ _ _ _, Nat.zero_le _, Nat.zero_le _, Nat.zero_le _⟩
  · have hcs : [Value.slice a len cap] = [Value.slice (some a') len' cap'] := hcs
    injection hcs with hcs _
    injection hcs with e1 e2 e3
    subst e1 e2 e3
    simp only [if_true] at hmm
    subst hmm
    have each : ∀ i, i < len → ∃ x : α, ∀ j, j < n → W.cell? (a'.add (i * n + j)) = (E x)[j]? := fun i hil => by
      obtain ⟨cs', h1, h2⟩ := hi i (by omega)
      obtain ⟨x, rfl⟩ := dec _ _ _ h2
      rw [hc] at h1
      obtain ⟨_, _, hcell⟩ := World.cells?_some h1
      refine ⟨x, fun j hj => ?_⟩
      have := hcell j hj
      rwa [add_add] at this
    by_cases hz : len = 0
    · subst hz
      exact ⟨_, _, _, [], rfl, IsT.nil _ _ _ _, Nat.zero_le _, Nat.zero_le _, hm⟩
    · obtain ⟨x0, _⟩ := each 0 (by omega)
      haveI : Inhabited α := ⟨x0⟩
      obtain ⟨z, hz'⟩ := choose_lt each
      refine ⟨_, _, _, (List.range len).map z, rfl, ⟨by simp, fun _ => ?_⟩, Nat.le_trans hl hm, hl, hm⟩
      have c0 := hz' 0 (by omega) 0 hn
      obtain ⟨v0, hv0⟩ : ∃ v0, (E (z 0))[0]? = some v0 := ⟨_, List.getElem?_eq_getElem (by rw [h0]; exact hn)⟩
      rw [hv0] at c0
      have hlt := World.block_lt_of_cell? W _ c0
      have hsp := World.cell?_spot c0
      obtain ⟨b, off, spot⟩ := a'
      have hspot : spot = none := by simpa [Addr.add] using hsp
      subst hspot
      rw [block_add] at hlt
      refine ⟨b, off, rfl, hlt, fun j x hx i v hv => ?_⟩
      have hj : j < len := by
        have := (List.getElem?_eq_some_iff.1 hx).1
        simpa using this
      have hx' : x = z j := by
        rw [List.getElem?_map, List.getElem?_range hj] at hx
        simpa using hx.symm
      subst hx'
      have hin : i < n := by
        have := (List.getElem?_eq_some_iff.1 hv).1
        rwa [h0] at this
      have := hz' j hj i hin
      rw [add_plain, hv] at this
      rw [← this]
      congr 2
      omega

end

end Go.Proofs.Ytkhahbnagbjbiaa
end
