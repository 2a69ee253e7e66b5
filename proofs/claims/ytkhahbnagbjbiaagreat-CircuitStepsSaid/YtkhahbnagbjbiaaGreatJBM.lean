import Derived.Test.YtkhahbnagbjbiaaGreatJAO
import Derived.Test.YtkhahbnagbjbiaaGreatJBJ
import Derived.Test.YtkhahbnagbjbiaaGreatJBL
import Derived.Test.YtkhahbnagbjbiaaGreatRows
import Derived.KernelRfl
import Derived.Laws.StructEq
section
/- Abstract walking: drawn regions in which several operations make memory: what is done, in whatever order, is walked once. -/
namespace Go.Proofs.YtkhahbnagbjbiaaGreat
set_option linter.unusedVariables false
set_option linter.unusedSimpArgs false
set_option autoImplicit false
open Go.RowKit

inductive Ins (x : Nat × Cont) : Boxes → Boxes → Prop
  | here {L : Boxes} : Ins x L (x :: L)
  | there {y : Nat × Cont} {L L' : Boxes} (h : Ins x L L') : Ins x (y :: L) (y :: L')
theorem Ins.perm {x : Nat × Cont} {L L' : Boxes} (h : Ins x L L') : L'.Perm (x :: L) := by
  induction h with
  | here => exact List.Perm.refl _
  | there h ih => exact (List.Perm.cons _ ih).trans (List.Perm.swap _ _ _)
/-- the second list holds the first one's boxes in another order -/
inductive Pm : Boxes → Boxes → Prop
  | refl {L : Boxes} : Pm L L
  | cons {x : Nat × Cont} {M L L' : Boxes} (h : Ins x L L') (t : Pm M L) : Pm (x :: M) L'
theorem Pm.perm {M L : Boxes} (h : Pm M L) : L.Perm M := by
  induction h with
  | refl => exact List.Perm.refl _
  | cons h t ih => exact h.perm.trans (List.Perm.cons _ ih)
theorem Sta.pm {E : Cfg} {U : Snaps} {L M : Boxes} {w : World} (h : Sta E U L w) (hp : Pm M L) : Sta E U M w := h.perm hp.perm

section
variable {P : Program} {e0 : Cfg} {U : Snaps} {l : Slots} {L : Boxes} {ops : Array Oper} {Q : Exit → Act → World → Prop} {U0 : Snaps} {L0 : Boxes} {last fuel : Nat} {listed : Array Bool}
/-- a place in the region that is reached in several orders is walked once -/
theorem ah_share {fuel' : Nat} {listed' : Array Bool} (K : (Slots → Boxes → Prop) → Prop) (h1 : K (fun l' L' => AH P ops Q U0 L0 last fuel' listed' e0 U l' L'))
    (h2 : K (fun l' L' => AH P ops Q U0 L0 last fuel' listed' e0 U l' L') → AH P ops Q U0 L0 last fuel listed e0 U l L) : AH P ops Q U0 L0 last fuel listed e0 U l L := h2 h1
theorem ah_to {fuel' : Nat} {listed' : Array Bool} {l' : Slots} {L' : Boxes} (h : AH P ops Q U0 L0 last fuel' listed' e0 U l' L') (hf : fuel' = fuel) (he : listed' = listed) (hl : AllLook l l') (hL : ∀ w, Sta e0 U L w → Sta e0 U L' w) : AH P ops Q U0 L0 last fuel listed e0 U l L := by
  subst hf; subst he
  exact fun hok hc => aq_sub (h hok hc) hl hL
end

end Go.Proofs.YtkhahbnagbjbiaaGreat
end
section
/- The specification of layer 3: Step, Quench, over this seat's translation (written by ax_ci24.py). -/
namespace Go.Proofs.YtkhahbnagbjbiaaGreat
set_option linter.unusedVariables false
set_option linter.unusedSimpArgs false
open Go.RowKit

set_option maxRecDepth 100000 in
theorem rvalidDrive_any (R : MachR) (M : MachD) (A1 A2 : Option Addr) (l1 c1 l2 c2 : Nat) (ch pl : List Int) (w : World) (hM : IsM w R M) (hc : checkC M = 0) (i1 : IsT 1 intCells w A1 l1 ch) (i2 : IsT 1 intCells w A2 l2 pl) : Calls Tryz.prog 27 #[(.agg (machCells R M)), (.agg #[.slice A1 l1 c1, .slice A2 l2 c2])] w (Ret (.bool (validCh M ch 1000000000000000 && validPl M pl)) w) := by
  refine calls_ax (vs := [(.agg (machCells R M)), (.agg #[.slice A1 l1 c1, .slice A2 l2 c2])]) Tryz.func27 rfl rfl ?_
  refine ac_seq ?_
  refine ac_region ?_
  refine al_new (fun b => .pointer (some ⟨b, 0, none⟩)) (r_box rfl rfl) rfl rfl rfl ?_
  intro b1
  refine al_new (fun b => .pointer (some ⟨b, 0, none⟩)) (r_box rfl rfl) rfl rfl rfl ?_
  intro b2
  refine al_q (q_assign rfl) rfl rfl rfl ?_
  refine al_end ?_
  refine aq_then ?_
  refine ac_seq ?_
  refine ac_region ?_
  refine al_q (q_loadAll (i := 1) rfl rfl Tryz.isAgg29 Tryz.sizeOf29 rfl) rfl rfl rfl ?_
  refine al_q (q_fieldAddr 0 rfl Tryz.runUnderlying37 rfl Tryz.sizeOf30 (by decide) rfl) rfl rfl rfl ?_
  refine al_q (q_load (i := 0) rfl rfl rfl Tryz.isAgg30) rfl rfl rfl ?_
  refine al_call Tryz.call55 (.cons rfl (.cons rfl (.cons rfl .nil))) rfl rfl (fun w1 hs1 => ?_)
  refine (rvalidChange_any R M A1 l1 c1 ch 1000000000000000 _ (hM.below hs1.below) (i1.below hs1.below) (by omega)).mono ?_
  rintro e u1 ⟨rfl, hb_1⟩
  refine ⟨_, rfl, hb_1, ?_⟩
  clear hs1
  refine al_q (q_move rfl) rfl rfl rfl ?_
  refine aq_split 9 rfl (fun hb1 => ?_) (fun hb1 => ?_)
  · have g9 : validCh M ch 1000000000000000 = true := hb1
    refine al_q (q_loadAll (i := 1) rfl rfl Tryz.isAgg29 Tryz.sizeOf29 rfl) rfl rfl rfl ?_
    refine al_q (q_fieldAddr 1 rfl Tryz.runUnderlying37 rfl Tryz.sizeOf30 (by decide) rfl) rfl rfl rfl ?_
    refine al_q (q_load (i := 0) rfl rfl rfl Tryz.isAgg30) rfl rfl rfl ?_
    refine al_call Tryz.call56 (.cons rfl (.cons rfl .nil)) rfl rfl (fun w2 hs2 => ?_)
    refine (rvalidPl_any R M A2 l2 c2 pl _ (hM.below hs2.below) hc (i2.below hs2.below)).mono ?_
    rintro e u2 ⟨rfl, hb_2⟩
    refine ⟨_, rfl, hb_2, ?_⟩
    clear hs2
    refine al_q (q_pickT rfl rfl) rfl rfl rfl ?_
    refine al_q (q_assign rfl) rfl rfl rfl ?_
    refine al_end ?_
    refine aq_then ?_
    refine ac_ret ?_
    refine ret1 Tryz.results27 rfl (fun w9 hs => ?_)
    rw [g9, Bool.true_and]; exact ⟨rfl, hs.below⟩
  · have g9 : validCh M ch 1000000000000000 = false := hb1
    refine al_skip rfl rfl rfl ?_
    refine al_skip rfl rfl rfl ?_
    refine al_skip rfl rfl rfl ?_
    refine al_skip rfl rfl rfl ?_
    refine al_q (q_pickF rfl rfl) rfl rfl rfl ?_
    refine al_q (q_assign rfl) rfl rfl rfl ?_
    refine al_end ?_
    refine aq_then ?_
    refine ac_ret ?_
    refine ret1 Tryz.results27 rfl (fun w9 hs => ?_)
    rw [g9, Bool.false_and]; exact ⟨rfl, hs.below⟩

theorem stepE_late {M : MachD} {S : StD} {ch pl : List Int} (hv : validS M S = true) (h1 : validCh M ch 1000000000000000 = true) (h2 : validPl M pl = true) (h : S.tick ≥ 1000000000) : stepE M S ch pl = 7 := by
  rw [stepE, if_pos ⟨hv, h1, h2⟩, repE, if_neg (by omega)]
theorem stepE_fine {M : MachD} {S : StD} {ch pl : List Int} (hv : validS M S = true) (h1 : validCh M ch 1000000000000000 = true) (h2 : validPl M pl = true) (h : ¬ S.tick ≥ 1000000000) : stepE M S ch pl = 0 := by
  rw [stepE, if_pos ⟨hv, h1, h2⟩, repE, if_pos (by omega)]
theorem quenE_late {M : MachD} {S : StD} (hv : validS M S = true) (h : S.tick ≥ 1000000000) : quenE M S = 7 := by
  rw [quenE, if_pos hv, repE, if_neg (by omega)]
theorem quenE_fine {M : MachD} {S : StD} (hv : validS M S = true) (h : ¬ S.tick ≥ 1000000000) : quenE M S = 0 := by
  rw [quenE, if_pos hv, repE, if_pos (by omega)]
theorem rsameS_refl (P Q : StR) (S : StD) (w : World) (a1 : IsS w P S) (a2 : IsS w Q S) : Calls Tryz.prog 11 #[P.v S.tick, Q.v S.tick] w (Ret (.bool true) w) := by
  have := rsameS_any P Q S S w a1 a2
  rwa [same_refl] at this

theorem kze_bl_apiState_ : ∀ w, (Instr.build 35 #[]).run Tryz.prog w = .ok (.agg #[(.int .i64 0), (.slice none 0 0), (.slice none 0 0), (.slice none 0 0), (.slice none 0 0), (.slice none 0 0)]) w := by
  intro w; simp [Instr.build, Instr.fill, cells_agg, Tryz.runUnderlying35, Tryz.zeroValue35, Tryz.sizeOf3, Tryz.sizeOf30, Tryz.sizeOf32, Tryz.sizeOf33]

set_option maxRecDepth 100000 in
theorem rStep_any (R : MachR) (M : MachD) (RS : StR) (S : StD) (A1 A2 : Option Addr) (l1 c1 l2 c2 : Nat) (ch pl : List Int) (w : World) (hM : IsM w R M) (hS : IsS w RS S) (i1 : IsT 1 intCells w A1 l1 ch) (i2 : IsT 1 intCells w A2 l2 pl) : Calls Tryz.prog 10 #[(.agg (machCells R M)), (RS.v S.tick), (.agg #[.slice A1 l1 c1, .slice A2 l2 c2])] w (OutS w (stepE M S ch pl) (stepD M S ch pl)) := by
  refine calls_ax (vs := [(.agg (machCells R M)), (RS.v S.tick), (.agg #[.slice A1 l1 c1, .slice A2 l2 c2])]) Tryz.func10 rfl rfl ?_
  refine ac_seq ?_
  refine ac_region ?_
  refine al_new (fun b => .pointer (some ⟨b, 0, none⟩)) (r_box rfl rfl) rfl rfl rfl ?_
  intro b1
  refine al_new (fun b => .pointer (some ⟨b, 0, none⟩)) (r_box rfl rfl) rfl rfl rfl ?_
  intro b2
  refine al_new (fun b => .pointer (some ⟨b, 0, none⟩)) (r_box rfl rfl) rfl rfl rfl ?_
  intro b3
  refine al_new (fun b => .pointer (some ⟨b, 0, none⟩)) (r_alloc Tryz.zeroValue35 rfl) rfl rfl rfl ?_
  intro b4
  refine al_q (q_assign rfl) rfl rfl rfl ?_
  refine al_end ?_
  refine aq_then ?_
  refine ac_seq ?_
  refine ac_block ?_
  refine ac_seq ?_
  refine ac_region ?_
  refine al_q (q_loadAll (i := 3) rfl rfl Tryz.isAgg29 Tryz.sizeOf29 rfl) rfl rfl rfl ?_
  refine al_q (q_loadAll (i := 2) rfl rfl Tryz.isAgg35 Tryz.sizeOf35 rfl) rfl rfl rfl ?_
  refine al_call Tryz.call26 (.cons rfl (.cons rfl .nil)) rfl rfl (fun w1 hs1 => ?_)
  refine (rvalidState_any R M RS S _ (hM.below hs1.below) (hS.below hs1.below)).mono ?_
  rintro e u1 ⟨rfl, hb_1⟩
  refine ⟨_, rfl, hb_1, ?_⟩
  clear hs1
  refine al_q (q_not rfl) rfl rfl rfl ?_
  refine al_q (q_move rfl) rfl rfl rfl ?_
  refine aq_split 13 rfl (fun hb1 => ?_) (fun hb1 => ?_)
  · have hE : stepE M S ch pl = 1 := if_neg (fun h => by first | (rw [h.1] at hb1; cases hb1) | (rw [h] at hb1; cases hb1))
    refine al_skip rfl rfl rfl ?_
    refine al_skip rfl rfl rfl ?_
    refine al_skip rfl rfl rfl ?_
    refine al_skip rfl rfl rfl ?_
    refine al_q (q_pickT rfl rfl) rfl rfl rfl ?_
    refine al_q (q_assign rfl) rfl rfl rfl ?_
    refine al_end ?_
    refine aq_then ?_
    refine ac_condT rfl ?_
    refine ac_seq ?_
    refine ac_region ?_
    refine al_q (q_build .nil (kze_bl_apiState_)) rfl rfl rfl ?_
    refine al_storeAll (i := 0) rfl rfl rfl rfl Tryz.sizeOf35 rfl rfl .k0 rfl ?_
    refine al_q (q_assign rfl) rfl rfl rfl ?_
    refine al_end ?_
    refine aq_then ?_
    refine ac_ret ?_
    refine aq_inR ?_
    refine aq_thenR ?_
    refine retR Tryz.results10 (.agg (i := 0) rfl rfl Tryz.isAgg35 Tryz.sizeOf35 rfl (.tmp rfl .nil)) .two (fun w9 hs => ?_)
    rw [hE]; exact OutS.bad (by decide) ⟨rfl, hs.below⟩
  · have hv : validS M S = true := by simpa using hb1
    have hf := fitS_iff.1 hv
    obtain ⟨s1, s2⟩ := smallC hM hf.cur.check
    refine al_q (q_loadAll (i := 3) rfl rfl Tryz.isAgg29 Tryz.sizeOf29 rfl) rfl rfl rfl ?_
    refine al_q (q_loadAll (i := 1) rfl rfl Tryz.isAgg37 Tryz.sizeOf37 rfl) rfl rfl rfl ?_
    refine al_call Tryz.call27 (.cons rfl (.cons rfl .nil)) rfl rfl (fun w2 hs2 => ?_)
    refine (rvalidDrive_any R M A1 A2 l1 c1 l2 c2 ch pl _ (hM.below hs2.below) hf.cur.check (i1.below hs2.below) (i2.below hs2.below)).mono ?_
    rintro e u2 ⟨rfl, hb_2⟩
    refine ⟨_, rfl, hb_2, ?_⟩
    clear hs2
    refine al_q (q_not rfl) rfl rfl rfl ?_
    refine al_q (q_pickF rfl rfl) rfl rfl rfl ?_
    refine al_q (q_assign rfl) rfl rfl rfl ?_
    refine al_end ?_
    refine aq_then ?_
    refine ac_cond rfl (fun h1 => ?_) (fun h1 => ?_)
    · have hE : stepE M S ch pl = 1 := if_neg (fun h => by rw [h.2.1, h.2.2] at h1; cases h1)
      refine ac_seq ?_
      refine ac_region ?_
      refine al_q (q_build .nil (kze_bl_apiState_)) rfl rfl rfl ?_
      refine al_storeAll (i := 0) rfl rfl rfl rfl Tryz.sizeOf35 rfl rfl .k0 rfl ?_
      refine al_q (q_assign rfl) rfl rfl rfl ?_
      refine al_end ?_
      refine aq_then ?_
      refine ac_ret ?_
      refine aq_inR ?_
      refine aq_thenR ?_
      refine retR Tryz.results10 (.agg (i := 0) rfl rfl Tryz.isAgg35 Tryz.sizeOf35 rfl (.tmp rfl .nil)) .two (fun w9 hs => ?_)
      rw [hE]; exact OutS.bad (by decide) ⟨rfl, hs.below⟩
    · have hd := (Bool.and_eq_true _ _).mp (show (validCh M ch 1000000000000000 && validPl M pl) = true by simpa using h1)
      refine ac_seq ?_
      refine ac_region ?_
      refine al_q (q_fieldAddr 0 rfl Tryz.runUnderlying35 rfl Tryz.sizeOf3 (by decide) rfl) rfl rfl rfl ?_
      refine al_q (q_load (i := 2) rfl rfl rfl Tryz.isAgg3) rfl rfl rfl ?_
      refine al_q (q_geq rfl rfl) rfl rfl rfl ?_
      refine al_q (q_assign rfl) rfl rfl rfl ?_
      refine al_end ?_
      refine aq_then ?_
      refine ac_cond rfl (fun h2 => ?_) (fun h2 => ?_)
      · have hE := stepE_late hv hd.1 hd.2 (of_decide_eq_true h2)
        refine ac_seq ?_
        refine ac_region ?_
        refine al_q (q_build .nil (kze_bl_apiState_)) rfl rfl rfl ?_
        refine al_storeAll (i := 0) rfl rfl rfl rfl Tryz.sizeOf35 rfl rfl .k0 rfl ?_
        refine al_q (q_assign rfl) rfl rfl rfl ?_
        refine al_end ?_
        refine aq_then ?_
        refine ac_ret ?_
        refine aq_inR ?_
        refine aq_thenR ?_
        refine retR Tryz.results10 (.agg (i := 0) rfl rfl Tryz.isAgg35 Tryz.sizeOf35 rfl (.tmp rfl .nil)) .two (fun w9 hs => ?_)
        rw [hE]; exact OutS.bad (by decide) ⟨rfl, hs.below⟩
      · have hE := stepE_fine hv hd.1 hd.2 (of_decide_eq_false h2)
        refine ac_skip ?_
        refine aq_inN ?_
        refine aq_then ?_
        refine ac_seq ?_
        refine ac_region ?_
        refine al_q (q_loadAll (i := 3) rfl rfl Tryz.isAgg29 Tryz.sizeOf29 rfl) rfl rfl rfl ?_
        refine al_q (q_loadAll (i := 2) rfl rfl Tryz.isAgg35 Tryz.sizeOf35 rfl) rfl rfl rfl ?_
        refine al_q (q_loadAll (i := 1) rfl rfl Tryz.isAgg37 Tryz.sizeOf37 rfl) rfl rfl rfl ?_
        refine al_call Tryz.call28 (.cons rfl (.cons rfl (.cons rfl .nil))) rfl rfl (fun w3 hs3 => ?_)
        have hz := hs3.below.size
        refine (rstep_any R M RS S A1 A2 l1 c1 l2 c2 ch pl _ (hM.below hs3.below) (hS.below hs3.below) hf (i1.below hs3.below) (i2.below hs3.below) hd.1 (fitP_iff.1 hd.2)).mono ?_
        rintro e u3 ⟨x9, rfl, k1_, k2_, hb_3⟩
        refine ⟨_, rfl, hb_3, ?_⟩
        clear hs3
        refine al_storeAll (i := 0) rfl rfl rfl rfl Tryz.sizeOf35 rfl rfl .k0 rfl ?_
        refine al_q (q_assign rfl) rfl rfl rfl ?_
        refine al_end ?_
        refine aq_then ?_
        refine ac_ret ?_
        refine retR Tryz.results10 (.agg (i := 0) rfl rfl Tryz.isAgg35 Tryz.sizeOf35 rfl (.tmp rfl .nil)) .two (fun w9 hs => ?_)
        rw [hE]; exact outS_late (k := 0) hs (.head _) hz hs.below (fun _ => ⟨rfl, k1_, k2_⟩) (fun h => absurd rfl h)

theorem kze_bl_apiDrive_0_1 (a0 a1 : Value) (ha0 : a0.oneCell' = true) (ha1 : a1.oneCell' = true) : ∀ w, (Instr.build 37 #[(0, a0), (1, a1)]).run Tryz.prog w = .ok (.agg #[a0, a1]) w := by
  have ea0 : a0.cells = #[a0] := cells_one ha0
  have ea1 : a1.cells = #[a1] := cells_one ha1
  intro w; simp [Instr.build, Instr.fill, cells_agg, Tryz.runUnderlying37, Tryz.zeroValue37, Tryz.sizeOf30, ea0, ea1]

set_option maxRecDepth 100000 in
theorem rQuench_any (R : MachR) (M : MachD) (RS : StR) (S : StD) (w : World) (hM : IsM w R M) (hS : IsS w RS S) (h1 : R.la ≤ 1000) (h2 : RS.Q.lc ≤ 1000) : Calls Tryz.prog 13 #[(.agg (machCells R M)), (RS.v S.tick)] w (OutS w (quenE M S) (stepD M S (zerosI M.coils.length) (dimL S))) := by
  refine calls_ax (vs := [(.agg (machCells R M)), (RS.v S.tick)]) Tryz.func13 rfl rfl ?_
  refine ac_seq ?_
  refine ac_region ?_
  refine al_new (fun b => .pointer (some ⟨b, 0, none⟩)) (r_box rfl rfl) rfl rfl rfl ?_
  intro b1
  refine al_new (fun b => .pointer (some ⟨b, 0, none⟩)) (r_box rfl rfl) rfl rfl rfl ?_
  intro b2
  refine al_new (fun b => .pointer (some ⟨b, 0, none⟩)) (r_alloc Tryz.zeroValue35 rfl) rfl rfl rfl ?_
  intro b3
  refine al_q (q_assign rfl) rfl rfl rfl ?_
  refine al_end ?_
  refine aq_then ?_
  refine ac_seq ?_
  refine ac_draw 11 (by kernel_rfl) (by kernel_rfl) ?_
  refine ah_share (fuel' := 1) (listed' := #[true, true, true, true, true, true, true, true, true, true, true, false]) (fun K => ∀ (b1001 : Nat), ∀ (b4001 : Nat), ∀ (b10001 : Nat), K [(2, (.pointer (some ⟨b1, 0, none⟩))), (3, (.pointer (some ⟨b2, 0, none⟩))), (4, (.pointer (some ⟨b3, 0, none⟩))), (5, (.int .i64 0)), (6, (.pointer (some ⟨b10001, 0, none⟩))), (7, (.pointer (some ⟨b1, 1, none⟩))), (8, (.slice (R.A) R.la R.ca)), (9, (.int .i64 (R.la : Int))), (10, (.slice (some ⟨b1001, 0, none⟩) (R.la) (R.la))), (11, (.pointer (some ⟨b2, 1, none⟩))), (12, (.pointer (some ⟨b2, 3, none⟩))), (13, (.slice RS.Q.C RS.Q.lc RS.Q.cc)), (14, (.int .i64 (RS.Q.lc : Int))), (15, (.slice (some ⟨b4001, 0, none⟩) (RS.Q.lc) (RS.Q.lc))), (16, (.agg #[(.slice (some ⟨b1001, 0, none⟩) (R.la) (R.la)), (.slice (some ⟨b4001, 0, none⟩) (RS.Q.lc) (RS.Q.lc))]))] [(b10001, .cells [(.slice none 0 0), (.slice none 0 0)]), (b4001, .cells ((List.replicate (RS.Q.lc) ((.int .i64 0))))), (b1001, .cells ((List.replicate (R.la) ((.int .i64 0))))), (b3, .cells [(.int .i64 0), (.slice none 0 0), (.slice none 0 0), (.slice none 0 0), (.slice none 0 0), (.slice none 0 0)]), (b2, .cells ((stC RS S.tick))), (b1, .cells [(.string M.name), (.slice (R.A) R.la R.ca), (.slice (R.B) R.lb R.cb), (.slice (R.C) R.lc R.cc), (.int .i64 M.grid.r), (.int .i64 M.grid.z), (.int .i64 M.grid.nr), (.int .i64 M.grid.nz), (.int .i64 M.grid.step), (.slice (R.D) R.ld R.cd)])]) ?_ (fun hS1_0 => ?_)
  · intro b1001 b4001 b10001
    refine ah_one 11 rfl (by kernel_rfl) (fun hok1 hcl1 => ?_)
    refine al_storeAll (i := 0) rfl rfl rfl rfl Tryz.sizeOf37 rfl rfl .k0 rfl ?_
    refine al_end (ah_last (by kernel_rfl) ?_)
    refine aq_then ?_
    refine ac_seq ?_
    refine ac_block ?_
    refine ac_seq ?_
    refine ac_region ?_
    refine al_q (q_loadAll (i := 5) rfl rfl Tryz.isAgg29 Tryz.sizeOf29 rfl) rfl rfl rfl ?_
    refine al_q (q_loadAll (i := 4) rfl rfl Tryz.isAgg35 Tryz.sizeOf35 rfl) rfl rfl rfl ?_
    refine al_call Tryz.call26 (.cons rfl (.cons rfl .nil)) rfl rfl (fun w1 hs1 => ?_)
    refine (rvalidState_any R M RS S _ (hM.below hs1.below) (hS.below hs1.below)).mono ?_
    rintro e u1 ⟨rfl, hb_1⟩
    refine ⟨_, rfl, hb_1, ?_⟩
    clear hs1
    refine al_q (q_not rfl) rfl rfl rfl ?_
    refine al_q (q_assign rfl) rfl rfl rfl ?_
    refine al_end ?_
    refine aq_then ?_
    refine ac_cond rfl (fun h1 => ?_) (fun h1 => ?_)
    · have hE : quenE M S = 1 := if_neg (fun h => by first | (rw [h.1] at h1; cases h1) | (rw [h] at h1; cases h1))
      refine ac_seq ?_
      refine ac_region ?_
      refine al_q (q_build .nil (kze_bl_apiState_)) rfl rfl rfl ?_
      refine al_storeAll (i := 3) rfl rfl rfl rfl Tryz.sizeOf35 rfl rfl .k3 rfl ?_
      refine al_q (q_assign rfl) rfl rfl rfl ?_
      refine al_end ?_
      refine aq_then ?_
      refine ac_ret ?_
      refine aq_inR ?_
      refine aq_thenR ?_
      refine retR Tryz.results13 (.agg (i := 3) rfl rfl Tryz.isAgg35 Tryz.sizeOf35 rfl (.tmp rfl .nil)) .two (fun w9 hs => ?_)
      rw [hE]; exact OutS.bad (by decide) ⟨rfl, hs.below⟩
    · have hv : validS M S = true := by simpa using h1
      have hf := fitS_iff.1 hv
      obtain ⟨s1, s2⟩ := smallC hM hf.cur.check
      refine ac_seq ?_
      refine ac_region ?_
      refine al_q (q_fieldAddr 0 rfl Tryz.runUnderlying35 rfl Tryz.sizeOf3 (by decide) rfl) rfl rfl rfl ?_
      refine al_q (q_load (i := 4) rfl rfl rfl Tryz.isAgg3) rfl rfl rfl ?_
      refine al_q (q_geq rfl rfl) rfl rfl rfl ?_
      refine al_q (q_assign rfl) rfl rfl rfl ?_
      refine al_end ?_
      refine aq_then ?_
      refine ac_cond rfl (fun h2 => ?_) (fun h2 => ?_)
      · have hE := quenE_late hv (of_decide_eq_true h2)
        refine ac_seq ?_
        refine ac_region ?_
        refine al_q (q_build .nil (kze_bl_apiState_)) rfl rfl rfl ?_
        refine al_storeAll (i := 3) rfl rfl rfl rfl Tryz.sizeOf35 rfl rfl .k3 rfl ?_
        refine al_q (q_assign rfl) rfl rfl rfl ?_
        refine al_end ?_
        refine aq_then ?_
        refine ac_ret ?_
        refine aq_inR ?_
        refine aq_thenR ?_
        refine retR Tryz.results13 (.agg (i := 3) rfl rfl Tryz.isAgg35 Tryz.sizeOf35 rfl (.tmp rfl .nil)) .two (fun w9 hs => ?_)
        rw [hE]; exact OutS.bad (by decide) ⟨rfl, hs.below⟩
      · have hE := quenE_fine hv (of_decide_eq_false h2)
        refine ac_skip ?_
        refine aq_inN ?_
        refine aq_then ?_
        refine ac_seq ?_
        refine ac_region ?_
        refine al_q (q_loadAll (i := 5) rfl rfl Tryz.isAgg29 Tryz.sizeOf29 rfl) rfl rfl rfl ?_
        refine al_q (q_loadAll (i := 4) rfl rfl Tryz.isAgg35 Tryz.sizeOf35 rfl) rfl rfl rfl ?_
        refine al_q (q_loadAll (i := 0) rfl rfl Tryz.isAgg37 Tryz.sizeOf37 rfl) rfl rfl rfl ?_
        refine al_call Tryz.call28 (.cons rfl (.cons rfl (.cons rfl .nil))) rfl rfl (fun w2 hs2 => ?_)
        have hz := hs2.below.size
        refine (rstep_any R M RS S (some ⟨b1001, 0, none⟩) (some ⟨b4001, 0, none⟩) R.la R.la RS.Q.lc RS.Q.lc (zerosI M.coils.length) (dimL S) _ (hM.below hs2.below) (hS.below hs2.below) hf (isT_box0 (n := 1) (enc := intCells) (fun _ => rfl) (hs2.at 2 rfl) (by rw [hM.coils.1]; exact flatZ R.la) (by simp [zerosI, hM.coils.1])) (isT_box0 (n := 1) (enc := intCells) (fun _ => rfl) (hs2.at 1 rfl) (by unfold dimL; rw [hS.cur.plasma.1]; exact flatZ RS.Q.lc) (by simp [dimL, zerosI, hS.cur.plasma.1])) zero_ch (fitP_iff.1 (dim_ok hf))).mono ?_
        rintro e u2 ⟨x9, rfl, k1_, k2_, hb_2⟩
        refine ⟨_, rfl, hb_2, ?_⟩
        clear hs2
        refine al_storeAll (i := 3) rfl rfl rfl rfl Tryz.sizeOf35 rfl rfl .k3 rfl ?_
        refine al_q (q_assign rfl) rfl rfl rfl ?_
        refine al_end ?_
        refine aq_then ?_
        refine ac_ret ?_
        refine retR Tryz.results13 (.agg (i := 3) rfl rfl Tryz.isAgg35 Tryz.sizeOf35 rfl (.tmp rfl .nil)) .two (fun w9 hs => ?_)
        rw [hE]; exact outS_late (k := 0) hs (.head _) hz hs.below (fun _ => ⟨rfl, k1_, k2_⟩) (fun h => absurd rfl h)
  refine ah_share (fuel' := 2) (listed' := #[true, true, true, true, true, true, true, true, true, true, false, false]) (fun K => ∀ (b1001 : Nat), ∀ (b4001 : Nat), K [(2, (.pointer (some ⟨b1, 0, none⟩))), (3, (.pointer (some ⟨b2, 0, none⟩))), (4, (.pointer (some ⟨b3, 0, none⟩))), (5, (.int .i64 0)), (7, (.pointer (some ⟨b1, 1, none⟩))), (8, (.slice (R.A) R.la R.ca)), (9, (.int .i64 (R.la : Int))), (10, (.slice (some ⟨b1001, 0, none⟩) (R.la) (R.la))), (11, (.pointer (some ⟨b2, 1, none⟩))), (12, (.pointer (some ⟨b2, 3, none⟩))), (13, (.slice RS.Q.C RS.Q.lc RS.Q.cc)), (14, (.int .i64 (RS.Q.lc : Int))), (15, (.slice (some ⟨b4001, 0, none⟩) (RS.Q.lc) (RS.Q.lc))), (16, (.agg #[(.slice (some ⟨b1001, 0, none⟩) (R.la) (R.la)), (.slice (some ⟨b4001, 0, none⟩) (RS.Q.lc) (RS.Q.lc))]))] [(b4001, .cells ((List.replicate (RS.Q.lc) ((.int .i64 0))))), (b1001, .cells ((List.replicate (R.la) ((.int .i64 0))))), (b3, .cells [(.int .i64 0), (.slice none 0 0), (.slice none 0 0), (.slice none 0 0), (.slice none 0 0), (.slice none 0 0)]), (b2, .cells ((stC RS S.tick))), (b1, .cells [(.string M.name), (.slice (R.A) R.la R.ca), (.slice (R.B) R.lb R.cb), (.slice (R.C) R.lc R.cc), (.int .i64 M.grid.r), (.int .i64 M.grid.z), (.int .i64 M.grid.nr), (.int .i64 M.grid.nz), (.int .i64 M.grid.step), (.slice (R.D) R.ld R.cd)])]) ?_ (fun hS1_1 => ?_)
  · intro b1001 b4001
    refine ah_one 10 rfl (by kernel_rfl) (fun hok2 hcl2 => ?_)
    refine al_new (fun b => .pointer (some ⟨b, 0, none⟩)) (r_alloc Tryz.zeroValue37 rfl) rfl rfl rfl ?_
    intro b4
    refine al_end (ah_back hok2 hcl2 (fun w9 hs => (hs.tail 3 rfl)) ?_)
    exact ah_to (hS1_0 b1001 b4001 b4) rfl (by kernel_rfl) ⟨rfl, rfl, rfl, rfl, rfl, rfl, rfl, rfl, rfl, rfl, rfl, rfl, rfl, rfl, rfl, trivial⟩ (fun w9 hs => hs)
  refine ah_share (fuel' := 3) (listed' := #[true, true, true, true, true, true, true, true, false, false, true, false]) (fun K => ∀ (b1001 : Nat), ∀ (b5001 : Nat), K [(2, (.pointer (some ⟨b1, 0, none⟩))), (3, (.pointer (some ⟨b2, 0, none⟩))), (4, (.pointer (some ⟨b3, 0, none⟩))), (5, (.int .i64 0)), (6, (.pointer (some ⟨b5001, 0, none⟩))), (7, (.pointer (some ⟨b1, 1, none⟩))), (8, (.slice (R.A) R.la R.ca)), (9, (.int .i64 (R.la : Int))), (10, (.slice (some ⟨b1001, 0, none⟩) (R.la) (R.la))), (11, (.pointer (some ⟨b2, 1, none⟩))), (12, (.pointer (some ⟨b2, 3, none⟩))), (13, (.slice RS.Q.C RS.Q.lc RS.Q.cc)), (14, (.int .i64 (RS.Q.lc : Int)))] [(b5001, .cells [(.slice none 0 0), (.slice none 0 0)]), (b1001, .cells ((List.replicate (R.la) ((.int .i64 0))))), (b3, .cells [(.int .i64 0), (.slice none 0 0), (.slice none 0 0), (.slice none 0 0), (.slice none 0 0), (.slice none 0 0)]), (b2, .cells ((stC RS S.tick))), (b1, .cells [(.string M.name), (.slice (R.A) R.la R.ca), (.slice (R.B) R.lb R.cb), (.slice (R.C) R.lc R.cc), (.int .i64 M.grid.r), (.int .i64 M.grid.z), (.int .i64 M.grid.nr), (.int .i64 M.grid.nz), (.int .i64 M.grid.step), (.slice (R.D) R.ld R.cd)])]) ?_ (fun hS1_2 => ?_)
  · intro b1001 b5001
    refine ah_one 8 rfl (by kernel_rfl) (fun hok3 hcl3 => ?_)
    refine al_makeInts (n := RS.Q.lc) (z := (.int .i64 0)) (bytes := 8) rfl rfl rfl Tryz.underlying30 (by kernel_rfl) rfl (by omega) (by decide) rfl rfl ?_
    intro b5
    refine al_end (ah_back hok3 hcl3 (fun w9 hs => (hs.tail 3 rfl)) ?_)
    refine ah_take 9 (fun w9 hs => (hs.tail 3 rfl)) rfl rfl rfl (by kernel_rfl) (by kernel_rfl) (by kernel_rfl) (fun _ _ _ h => h) rfl (q_build (.cons rfl (.cons rfl .nil)) (kze_bl_apiDrive_0_1 _ _ rfl rfl)) ?_
    exact ah_to (hS1_0 b1001 b5 b5001) rfl (by kernel_rfl) ⟨rfl, rfl, rfl, rfl, rfl, rfl, rfl, rfl, rfl, rfl, rfl, rfl, rfl, rfl, rfl, trivial⟩ (fun w9 hs => hs.pm (.cons (.there (.here)) (.refl)))
  refine ah_share (fuel' := 3) (listed' := #[true, true, true, false, true, true, true, true, true, false, true, false]) (fun K => ∀ (b2001 : Nat), ∀ (b7001 : Nat), K [(2, (.pointer (some ⟨b1, 0, none⟩))), (3, (.pointer (some ⟨b2, 0, none⟩))), (4, (.pointer (some ⟨b3, 0, none⟩))), (5, (.int .i64 0)), (6, (.pointer (some ⟨b7001, 0, none⟩))), (7, (.pointer (some ⟨b1, 1, none⟩))), (8, (.slice (R.A) R.la R.ca)), (9, (.int .i64 (R.la : Int))), (11, (.pointer (some ⟨b2, 1, none⟩))), (12, (.pointer (some ⟨b2, 3, none⟩))), (13, (.slice RS.Q.C RS.Q.lc RS.Q.cc)), (14, (.int .i64 (RS.Q.lc : Int))), (15, (.slice (some ⟨b2001, 0, none⟩) (RS.Q.lc) (RS.Q.lc)))] [(b7001, .cells [(.slice none 0 0), (.slice none 0 0)]), (b2001, .cells ((List.replicate (RS.Q.lc) ((.int .i64 0))))), (b3, .cells [(.int .i64 0), (.slice none 0 0), (.slice none 0 0), (.slice none 0 0), (.slice none 0 0), (.slice none 0 0)]), (b2, .cells ((stC RS S.tick))), (b1, .cells [(.string M.name), (.slice (R.A) R.la R.ca), (.slice (R.B) R.lb R.cb), (.slice (R.C) R.lc R.cc), (.int .i64 M.grid.r), (.int .i64 M.grid.z), (.int .i64 M.grid.nr), (.int .i64 M.grid.nz), (.int .i64 M.grid.step), (.slice (R.D) R.ld R.cd)])]) ?_ (fun hS1_3 => ?_)
  · intro b2001 b7001
    refine ah_one 3 rfl (by kernel_rfl) (fun hok4 hcl4 => ?_)
    refine al_makeInts (n := R.la) (z := (.int .i64 0)) (bytes := 8) rfl rfl rfl Tryz.underlying30 (by kernel_rfl) rfl (by omega) (by decide) rfl rfl ?_
    intro b6
    refine al_end (ah_back hok4 hcl4 (fun w9 hs => (hs.tail 3 rfl)) ?_)
    refine ah_take 9 (fun w9 hs => (hs.tail 3 rfl)) rfl rfl rfl (by kernel_rfl) (by kernel_rfl) (by kernel_rfl) (fun _ _ _ h => h) rfl (q_build (.cons rfl (.cons rfl .nil)) (kze_bl_apiDrive_0_1 _ _ rfl rfl)) ?_
    exact ah_to (hS1_0 b6 b2001 b7001) rfl (by kernel_rfl) ⟨rfl, rfl, rfl, rfl, rfl, rfl, rfl, rfl, rfl, rfl, rfl, rfl, rfl, rfl, rfl, trivial⟩ (fun w9 hs => hs.pm (.cons (.there (.here)) ( .cons (.there (.here)) (.refl))))
  · refine ah_take 0 (fun w9 hs => hs) rfl rfl rfl (by kernel_rfl) (by kernel_rfl) (by kernel_rfl) (fun _ _ _ h => h) rfl (q_fieldAddr 1 rfl Tryz.runUnderlying29 rfl Tryz.sizeOf22 (by decide) rfl) ?_
    refine ah_take 1 (fun w9 hs => hs) rfl rfl rfl (by kernel_rfl) (by kernel_rfl) (by kernel_rfl) (fun _ _ _ h => h) rfl (q_load (i := 2) rfl rfl rfl Tryz.isAgg22) ?_
    refine ah_take 2 (fun w9 hs => hs) rfl rfl rfl (by kernel_rfl) (by kernel_rfl) (by kernel_rfl) (fun _ _ _ h => h) rfl (q_lenS rfl Tryz.runUnderlying22) ?_
    refine ah_take 4 (fun w9 hs => hs) rfl rfl rfl (by kernel_rfl) (by kernel_rfl) (by kernel_rfl) (fun _ _ _ h => h) rfl (q_fieldAddr 1 rfl Tryz.runUnderlying35 rfl Tryz.sizeOf32 (by decide) rfl) ?_
    refine ah_take 5 (fun w9 hs => hs) rfl rfl rfl (by kernel_rfl) (by kernel_rfl) (by kernel_rfl) (fun _ _ _ h => h) rfl (q_fieldAddr 3 rfl Tryz.runUnderlying32 rfl Tryz.sizeOf30 (by decide) rfl) ?_
    refine ah_take 6 (fun w9 hs => hs) rfl rfl rfl (by kernel_rfl) (by kernel_rfl) (by kernel_rfl) (fun _ _ _ h => h) rfl (q_load (i := 1) rfl rfl rfl Tryz.isAgg30) ?_
    refine ah_take 7 (fun w9 hs => hs) rfl rfl rfl (by kernel_rfl) (by kernel_rfl) (by kernel_rfl) (fun _ _ _ h => h) rfl (q_lenS rfl Tryz.runUnderlying30) ?_
    refine ah_three 3 8 10 rfl rfl rfl  (by kernel_rfl) (fun hok5 hcl5 => ?_) (fun hok5 hcl5 => ?_) (fun hok5 hcl5 => ?_)
    · refine al_makeInts (n := R.la) (z := (.int .i64 0)) (bytes := 8) rfl rfl rfl Tryz.underlying30 (by kernel_rfl) rfl (by omega) (by decide) rfl rfl ?_
      intro b7
      refine al_end (ah_back hok5 hcl5 (fun w9 hs => (hs.tail 1 rfl)) ?_)
      refine ah_two 8 10 rfl rfl  (by kernel_rfl) (fun hok6 hcl6 => ?_) (fun hok6 hcl6 => ?_)
      · refine al_makeInts (n := RS.Q.lc) (z := (.int .i64 0)) (bytes := 8) rfl rfl rfl Tryz.underlying30 (by kernel_rfl) rfl (by omega) (by decide) rfl rfl ?_
        intro b8
        refine al_end (ah_back hok6 hcl6 (fun w9 hs => (hs.tail 2 rfl)) ?_)
        refine ah_take 9 (fun w9 hs => (hs.tail 2 rfl)) rfl rfl rfl (by kernel_rfl) (by kernel_rfl) (by kernel_rfl) (fun _ _ _ h => h) rfl (q_build (.cons rfl (.cons rfl .nil)) (kze_bl_apiDrive_0_1 _ _ rfl rfl)) ?_
        exact ah_to (hS1_1 b7 b8) rfl (by kernel_rfl) ⟨rfl, rfl, rfl, rfl, rfl, rfl, rfl, rfl, rfl, rfl, rfl, rfl, rfl, rfl, trivial⟩ (fun w9 hs => hs)
      · refine al_new (fun b => .pointer (some ⟨b, 0, none⟩)) (r_alloc Tryz.zeroValue37 rfl) rfl rfl rfl ?_
        intro b9
        refine al_end (ah_back hok6 hcl6 (fun w9 hs => (hs.tail 2 rfl)) ?_)
        exact ah_to (hS1_2 b7 b9) rfl (by kernel_rfl) ⟨rfl, rfl, rfl, rfl, rfl, rfl, rfl, rfl, rfl, rfl, rfl, rfl, rfl, trivial⟩ (fun w9 hs => hs)
    · refine al_makeInts (n := RS.Q.lc) (z := (.int .i64 0)) (bytes := 8) rfl rfl rfl Tryz.underlying30 (by kernel_rfl) rfl (by omega) (by decide) rfl rfl ?_
      intro b10
      refine al_end (ah_back hok5 hcl5 (fun w9 hs => (hs.tail 1 rfl)) ?_)
      refine ah_two 3 10 rfl rfl  (by kernel_rfl) (fun hok7 hcl7 => ?_) (fun hok7 hcl7 => ?_)
      · refine al_makeInts (n := R.la) (z := (.int .i64 0)) (bytes := 8) rfl rfl rfl Tryz.underlying30 (by kernel_rfl) rfl (by omega) (by decide) rfl rfl ?_
        intro b11
        refine al_end (ah_back hok7 hcl7 (fun w9 hs => (hs.tail 2 rfl)) ?_)
        refine ah_take 9 (fun w9 hs => (hs.tail 2 rfl)) rfl rfl rfl (by kernel_rfl) (by kernel_rfl) (by kernel_rfl) (fun _ _ _ h => h) rfl (q_build (.cons rfl (.cons rfl .nil)) (kze_bl_apiDrive_0_1 _ _ rfl rfl)) ?_
        exact ah_to (hS1_1 b11 b10) rfl (by kernel_rfl) ⟨rfl, rfl, rfl, rfl, rfl, rfl, rfl, rfl, rfl, rfl, rfl, rfl, rfl, rfl, trivial⟩ (fun w9 hs => hs.pm (.cons (.there (.here)) (.refl)))
      · refine al_new (fun b => .pointer (some ⟨b, 0, none⟩)) (r_alloc Tryz.zeroValue37 rfl) rfl rfl rfl ?_
        intro b12
        refine al_end (ah_back hok7 hcl7 (fun w9 hs => (hs.tail 2 rfl)) ?_)
        exact ah_to (hS1_3 b10 b12) rfl (by kernel_rfl) ⟨rfl, rfl, rfl, rfl, rfl, rfl, rfl, rfl, rfl, rfl, rfl, rfl, rfl, trivial⟩ (fun w9 hs => hs)
    · refine al_new (fun b => .pointer (some ⟨b, 0, none⟩)) (r_alloc Tryz.zeroValue37 rfl) rfl rfl rfl ?_
      intro b13
      refine al_end (ah_back hok5 hcl5 (fun w9 hs => (hs.tail 1 rfl)) ?_)
      refine ah_two 3 8 rfl rfl  (by kernel_rfl) (fun hok8 hcl8 => ?_) (fun hok8 hcl8 => ?_)
      · refine al_makeInts (n := R.la) (z := (.int .i64 0)) (bytes := 8) rfl rfl rfl Tryz.underlying30 (by kernel_rfl) rfl (by omega) (by decide) rfl rfl ?_
        intro b14
        refine al_end (ah_back hok8 hcl8 (fun w9 hs => (hs.tail 2 rfl)) ?_)
        exact ah_to (hS1_2 b14 b13) rfl (by kernel_rfl) ⟨rfl, rfl, rfl, rfl, rfl, rfl, rfl, rfl, rfl, rfl, rfl, rfl, rfl, trivial⟩ (fun w9 hs => hs.pm (.cons (.there (.here)) (.refl)))
      · refine al_makeInts (n := RS.Q.lc) (z := (.int .i64 0)) (bytes := 8) rfl rfl rfl Tryz.underlying30 (by kernel_rfl) rfl (by omega) (by decide) rfl rfl ?_
        intro b15
        refine al_end (ah_back hok8 hcl8 (fun w9 hs => (hs.tail 2 rfl)) ?_)
        exact ah_to (hS1_3 b15 b13) rfl (by kernel_rfl) ⟨rfl, rfl, rfl, rfl, rfl, rfl, rfl, rfl, rfl, rfl, rfl, rfl, rfl, trivial⟩ (fun w9 hs => hs.pm (.cons (.there (.here)) (.refl)))

end Go.Proofs.YtkhahbnagbjbiaaGreat
end
