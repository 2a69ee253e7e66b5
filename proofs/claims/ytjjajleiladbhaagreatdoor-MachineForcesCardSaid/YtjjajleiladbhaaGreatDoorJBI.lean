import Derived.Test.YtjjajleiladbhaaGreatDoorJAO
import Derived.Test.YtjjajleiladbhaaGreatDoorJAQ
import Derived.Test.YtjjajleiladbhaaGreatDoorJBF
import Derived.Test.YtjjajleiladbhaaGreatDoorJBH
import Derived.Test.YtjjajleiladbhaaGreatDoorRows
import Derived.KernelRfl
import Derived.Laws.StructEq
import Derived.ProofKit
import Derived.OpenShut
import Derived.SevenTiedAt
import Derived.LaidMore
import Derived.Stop.LaidErr
import Derived.ChangeMaps5
section
/- MachineForces: the law's walk, over this seat's translation (written by ax_lw.py). -/
namespace Go.Proofs.YtjjajleiladbhaaGreatDoor
set_option linter.unusedVariables false
set_option linter.unusedSimpArgs false
open Go.RowKit

set_option maxRecDepth 100000 in
theorem forces_walk (R : MachR) (M : MachD) (Q : CurR) (C : CurD) (i : Int) (W : World) (hE : Env W) (hM : R.la ≤ 1000000000000000 → R.lb ≤ 1000000000000000 → R.lc ≤ 1000000000000000 → R.ld ≤ 1000000000000000 → IsM W R M) (hC : OpC W Q C) (hi : -9223372036854775808 ≤ i ∧ i ≤ 9223372036854775807) : Calls Tryz.prog 8 #[(.agg (machCells R M)), Q.v, (.int .i64 i)] W (Ret (.bool true) W) := by
  refine calls_ax (vs := [(.agg (machCells R M)), Q.v, (.int .i64 i)]) Tryz.func8 rfl rfl ?_
  refine ac_seq ?_
  refine ac_region ?_
  refine al_new (fun b => .pointer (some ⟨b, 0, none⟩)) (r_box rfl rfl) rfl rfl rfl ?_
  intro b1
  refine al_new (fun b => .pointer (some ⟨b, 0, none⟩)) (r_box rfl rfl) rfl rfl rfl ?_
  intro b2
  refine al_q (q_assign rfl) rfl rfl rfl ?_
  refine al_end ?_
  refine aq_then ?_
  refine ac_seq ?_
  refine ac_seq ?_
  refine ac_region ?_
  refine al_q (q_loadAll (i := 1) rfl rfl Tryz.isAgg29 Tryz.sizeOf29 rfl) rfl rfl rfl ?_
  refine al_q (q_loadAll (i := 0) rfl rfl Tryz.isAgg34 Tryz.sizeOf34 rfl) rfl rfl rfl ?_
  refine al_call Tryz.call16 (.cons rfl (.cons rfl .nil)) rfl rfl (fun w1 hs1 => ?_)
  refine (brief2_any R M Q _).mono ?_
  rintro e u1 ⟨rfl, hb_1⟩
  refine ⟨_, rfl, hb_1, ?_⟩
  clear hs1
  refine al_q (q_not rfl) rfl rfl rfl ?_
  refine al_end ?_
  refine aq_then ?_
  refine ac_cond rfl (fun h1 => ?_) (fun h1 => ?_)
  · skip
    refine ac_seq ?_
    refine ac_region ?_
    refine al_call Tryz.call19 .nil rfl rfl (fun w2 hs2 => ?_)
    refine (awake2_any _ (hE.below hs2.below)).mono ?_
    rintro e u2 ⟨rfl, hb_2⟩
    refine ⟨_, rfl, hb_2, ?_⟩
    clear hs2
    refine al_q (q_assign rfl) rfl rfl rfl ?_
    refine al_end ?_
    refine aq_then ?_
    refine ac_ret ?_
    refine aq_thenR ?_
    refine ret1 Tryz.results8 rfl (fun w9 hs => ?_)
    exact ⟨rfl, hs.below⟩
  · have hbf := brief2_iff.1 (show brief2 R Q = true by simpa using h1)
    have hM := hM (by omega) (by omega) (by omega) (by omega)
    have hC := hC.isC (by omega) (by omega) (by omega)
    refine ac_skip ?_
    refine aq_then ?_
    refine ac_seq ?_
    refine ac_region ?_
    refine al_q (q_loadAll (i := 1) rfl rfl Tryz.isAgg29 Tryz.sizeOf29 rfl) rfl rfl rfl ?_
    refine al_q (q_loadAll (i := 0) rfl rfl Tryz.isAgg34 Tryz.sizeOf34 rfl) rfl rfl rfl ?_
    refine al_q (q_move rfl) rfl rfl rfl ?_
    refine al_call Tryz.call48 (.cons rfl (.cons rfl (.cons rfl .nil))) rfl rfl (fun w3 hs3 => ?_)
    refine (mforce_any R M Q C i _ (hM.below hs3.below) (hC.below hs3.below) hi.1 hi.2).mono ?_
    rintro e u3 ⟨rfl, hb_3⟩
    refine ⟨_, rfl, hb_3, ?_⟩
    clear hs3
    refine al_q (q_move rfl) rfl rfl rfl ?_
    refine al_q (q_extract rfl rfl) rfl rfl rfl ?_
    refine al_q (q_extract rfl rfl) rfl rfl rfl ?_
    refine al_q (q_extract rfl rfl) rfl rfl rfl ?_
    refine al_q (q_assign rfl) rfl rfl rfl ?_
    refine al_q (q_assign rfl) rfl rfl rfl ?_
    refine al_q (q_assign rfl) rfl rfl rfl ?_
    refine al_end ?_
    refine aq_then ?_
    refine ac_seq ?_
    refine ac_region ?_
    refine al_q (q_loadAll (i := 1) rfl rfl Tryz.isAgg29 Tryz.sizeOf29 rfl) rfl rfl rfl ?_
    refine al_q (q_loadAll (i := 0) rfl rfl Tryz.isAgg34 Tryz.sizeOf34 rfl) rfl rfl rfl ?_
    refine al_q (q_move rfl) rfl rfl rfl ?_
    refine al_call Tryz.call49 (.cons rfl (.cons rfl (.cons rfl .nil))) rfl rfl (fun w4 hs4 => ?_)
    refine (rForce_any R M Q C i _ (hM.below hs4.below) (hC.below hs4.below)).mono ?_
    rintro e u4 ⟨rfl, hb_4⟩
    refine ⟨_, rfl, hb_4, ?_⟩
    clear hs4
    refine al_q (q_move rfl) rfl rfl rfl ?_
    refine al_q (q_extract rfl rfl) rfl rfl rfl ?_
    refine al_q (q_extract rfl rfl) rfl rfl rfl ?_
    refine al_q (q_extract rfl rfl) rfl rfl rfl ?_
    refine al_q (q_assign rfl) rfl rfl rfl ?_
    refine al_q (q_assign rfl) rfl rfl rfl ?_
    refine al_q (q_assign rfl) rfl rfl rfl ?_
    refine al_end ?_
    refine aq_then ?_
    refine ac_seq ?_
    refine ac_seq ?_
    refine ac_region ?_
    refine al_q (q_move rfl) rfl rfl rfl ?_
    refine al_q (q_move rfl) rfl rfl rfl ?_
    refine al_q (q_same (v' := .bool false) (q_neq rfl rfl) (by simp)) rfl rfl rfl ?_
    refine al_q (q_move rfl) rfl rfl rfl ?_
    refine al_q (q_move rfl) rfl rfl rfl ?_
    refine al_q (q_move rfl) rfl rfl rfl ?_
    refine al_q (q_same (v' := .bool false) (q_neq rfl rfl) (by simp)) rfl rfl rfl ?_
    refine al_q (q_pickF rfl rfl) rfl rfl rfl ?_
    refine al_q (q_move rfl) rfl rfl rfl ?_
    refine al_q (q_move rfl) rfl rfl rfl ?_
    refine al_q (q_move rfl) rfl rfl rfl ?_
    refine al_q (q_same (v' := .bool false) (q_neq rfl rfl) (by simp)) rfl rfl rfl ?_
    refine al_q (q_pickF rfl rfl) rfl rfl rfl ?_
    refine al_end ?_
    refine aq_then ?_
    refine ac_condF rfl ?_
    refine ac_skip ?_
    refine aq_then ?_
    refine ac_seq ?_
    refine ac_region ?_
    refine al_q (q_loadAll (i := 1) rfl rfl Tryz.isAgg29 Tryz.sizeOf29 rfl) rfl rfl rfl ?_
    refine al_q (q_loadAll (i := 0) rfl rfl Tryz.isAgg34 Tryz.sizeOf34 rfl) rfl rfl rfl ?_
    refine al_q (q_move rfl) rfl rfl rfl ?_
    refine al_call Tryz.call50 (.cons rfl (.cons rfl (.cons rfl .nil))) rfl rfl (fun w5 hs5 => ?_)
    refine (exact_any R M Q C i _ (hM.below hs5.below) (hC.below hs5.below) hi.1 hi.2).mono ?_
    rintro e u5 ⟨rfl, hb_5⟩
    refine ⟨_, rfl, hb_5, ?_⟩
    clear hs5
    refine al_q (q_move rfl) rfl rfl rfl ?_
    refine al_q (q_extract rfl rfl) rfl rfl rfl ?_
    refine al_q (q_extract rfl rfl) rfl rfl rfl ?_
    refine al_q (q_assign rfl) rfl rfl rfl ?_
    refine al_q (q_assign rfl) rfl rfl rfl ?_
    refine al_end ?_
    refine aq_then ?_
    refine ac_seq ?_
    refine ac_region ?_
    refine al_q (q_loadAll (i := 1) rfl rfl Tryz.isAgg29 Tryz.sizeOf29 rfl) rfl rfl rfl ?_
    refine al_q (q_loadAll (i := 0) rfl rfl Tryz.isAgg34 Tryz.sizeOf34 rfl) rfl rfl rfl ?_
    refine al_q (q_move rfl) rfl rfl rfl ?_
    refine al_call Tryz.call51 (.cons rfl (.cons rfl (.cons rfl .nil))) rfl rfl (fun w6 hs6 => ?_)
    refine (rexact_any R M Q C i _ (hM.below hs6.below) (hC.below hs6.below)).mono ?_
    rintro e u6 ⟨rfl, hb_6⟩
    refine ⟨_, rfl, hb_6, ?_⟩
    clear hs6
    refine al_q (q_move rfl) rfl rfl rfl ?_
    refine al_q (q_extract rfl rfl) rfl rfl rfl ?_
    refine al_q (q_extract rfl rfl) rfl rfl rfl ?_
    refine al_q (q_assign rfl) rfl rfl rfl ?_
    refine al_q (q_assign rfl) rfl rfl rfl ?_
    refine al_end ?_
    refine aq_then ?_
    refine ac_seq ?_
    refine ac_region ?_
    refine al_q (q_move rfl) rfl rfl rfl ?_
    refine al_q (q_move rfl) rfl rfl rfl ?_
    refine al_q (q_same (v' := .bool true) (q_eql rfl rfl) (by simp)) rfl rfl rfl ?_
    refine al_q (q_move rfl) rfl rfl rfl ?_
    refine al_q (q_move rfl) rfl rfl rfl ?_
    refine al_q (q_move rfl) rfl rfl rfl ?_
    refine al_q (q_same (v' := .bool true) (q_eql rfl rfl) (by simp)) rfl rfl rfl ?_
    refine al_q (q_pickT rfl rfl) rfl rfl rfl ?_
    refine al_q (q_move rfl) rfl rfl rfl ?_
    refine al_call Tryz.call19 .nil rfl rfl (fun w7 hs7 => ?_)
    refine (awake2_any _ (hE.below hs7.below)).mono ?_
    rintro e u7 ⟨rfl, hb_7⟩
    refine ⟨_, rfl, hb_7, ?_⟩
    clear hs7
    refine al_q (q_pickT rfl rfl) rfl rfl rfl ?_
    refine al_q (q_assign rfl) rfl rfl rfl ?_
    refine al_end ?_
    refine aq_then ?_
    refine aq_keepL [6] (.cons rfl .nil) ?_
    refine aq_keepB (.drop (.drop .nil)) ?_
    refine ac_ret ?_
    refine ret1 Tryz.results8 rfl (fun w9 hs => ?_)
    exact ⟨rfl, hs.below⟩

end Go.Proofs.YtjjajleiladbhaaGreatDoor
end
section
/- The frame of the laws over machines: points, what the library's variables hold, the wrap with the world's shape kept, over this seat's translation (written by mk_f2.py). -/
namespace Go.Proofs.YtjjajleiladbhaaGreatDoor
set_option linter.unusedVariables false
set_option linter.unusedSimpArgs false
set_option maxRecDepth 100000
open Go.ChangeShapes Go.WideShapes Go.ChangeAt Go.RowKit Go.Joins Go.Shelf Go.ChangeMaps

section
variable {H : Type} {enc : TypeId × Value → H}
theorem wf_bd {n : Int} (h : (Lit.int .i64 n).wf = true) : -9223372036854775808 ≤ n ∧ n ≤ 9223372036854775807 := by
  have h1 : (decide (IntKind.i64.min ≤ n) && decide (n ≤ IntKind.i64.max)) = true := h
  rw [Bool.and_eq_true, decide_eq_true_eq, decide_eq_true_eq] at h1
  have e1 : IntKind.i64.min = -9223372036854775808 := by decide
  have e2 : IntKind.i64.max = 9223372036854775807 := by decide
  rw [e1, e2] at h1
  exact h1

/-- The wrap of a changing row under a condition on what is laid, the world's shape handed on. -/
theorem returns2 {a : Assume} {C : Checked} {os : Os} {f : FuncId} {fn : Func} {s : ChangeSpec} {conds : List PathCond} {apart fresh handsOn again : Bool} {X : World → Array Value → Prop}
    (hX : ∀ (w w' : World) (args : Array Value), w.heap = w'.heap → X w args → X w' args)
    (own : ownKnob C.prog.godebug = none) (started : os.Started) (noInit : C.prog.inits.idxOf? f = none) (hfn : C.prog.funcs[f]? = some fn)
    (witness : ∃ (w : World) (tape : Tape) (i : Input), w.os = os ∧ (w.forCall tape i).Shaped C.prog ∧ i.vars = [] ∧ Input.okWide C.prog (w.forCall tape i) .any w.heap.size f i ∧
      ((s.pre enc C.prog fn conds apart (w.forCall tape i).memory i.args ∧ X (w.forCall tape i).memory i.args) ∧ sizedMet enc C.prog fn (OpenSpec.ofChange s) apart (w.forCall tape i).memory i.args) ∧ a.holds C.prog (lone (Frame.enter C.prog f i.args .normal) [] (w.forCall tape i)))
    (contract : ∀ (W : World) (base : Nat) (args : Array Value) (ds gs : List (DataW H)) (before : List MemPlace),
      (∀ (j : Nat) t v, fn.params[j]? = some t → args[j]? = some v → Value.okWide C.prog W .any base t v) →
      DataW.Whole enc C.prog fn.params.toList s.vars apart W args.toList ds gs before → X W args → W.ShapedOpen C.prog →
      Calls C.prog f args W fun e W' => ∃ v, e = .returned v ∧ s.post enc C.prog fn apart fresh handsOn again W args v W') :
    ReturnsInHanded a C os f .any (fun w args => (s.pre enc C.prog fn conds apart w args ∧ X w args) ∧ sizedMet enc C.prog fn (OpenSpec.ofChange s) apart w args) (s.post enc C.prog fn apart fresh handsOn again) := by
  refine returnsInHanded_of_calls own started noInit witness ?_
  intro w tape i _ hsh _ hok hpre hholds
  obtain ⟨_, _, _, fn', hfn', _, _, _, _, hval⟩ := hok
  have e : fn' = fn := Option.some.inj (hfn'.symm.trans hfn)
  subst e
  obtain ⟨⟨⟨ds, gs, before, hw, hc⟩, hx⟩, hz⟩ := hpre
  have hw' := DataW.Whole.of_heap (w' := w.forCall tape i) (by rfl) hw
  refine (contract (w.forCall tape i) w.heap.size i.args ds gs before hval hw' (hX _ _ _ (by rfl) hx) hsh).mono fun e W' ⟨v, he, hp⟩ => ?_
  subst he
  exact ChangeSpec.post_blind hp
end

theorem gES : Tryz.prog.globalNamed "strconv.ErrSyntax" = some 4 := by kernel_rfl
theorem gER : Tryz.prog.globalNamed "strconv.ErrRange" = some 5 := by kernel_rfl
theorem cellsE : Tryz.prog.cellsOf 225 = 1 := by kernel_rfl
theorem cellsS : Tryz.prog.cellsOf 9 = 1 := by kernel_rfl
theorem star : "*" ++ "errors.errorString" = "*errors.errorString" := by decide
theorem rowE (u : TypeId) (h : Tryz.prog.typeName? 3 u = some "*errors.errorString") : u = 223 :=
  typeName_ptr_named (nm := "errors.errorString") (by rw [star]; kernel_rfl) (by kernel_rfl) (by decide) u (by rw [star]; exact h)

end Go.Proofs.YtjjajleiladbhaaGreatDoor
end
