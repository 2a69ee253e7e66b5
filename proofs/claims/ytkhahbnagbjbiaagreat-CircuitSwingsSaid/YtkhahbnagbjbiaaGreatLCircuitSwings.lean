import Derived.Test.YtkhahbnagbjbiaaGreatLBQ
import Derived.Test.YtkhahbnagbjbiaaGreatLBR
import Derived.Test.YtkhahbnagbjbiaaGreatRows
import Derived.ProofKit
import Derived.MakeChecks
import Derived.OpenShut
section
/- Proved: for every machine and list of states the law CircuitSwings returns true (Swing is that of the document, and it adds up over a list that is cut in two), and the arguments read afterwards as before; no conditions. -/
namespace Go.Proofs.YtkhahbnagbjbiaaGreat.lawCircuitSwings
set_option linter.unusedVariables false
set_option linter.unusedSimpArgs false
open Go.ChangeShapes Go.WideShapes Go.ChangeAt Go.RowKit Go.Joins

set_option maxRecDepth 100000 in
theorem lifted (os : Os) (started : os.Started) (H : Type) (enc : TypeId × Value → H) :
    ReturnsInHanded {} Tryz.checked os 6 .any (Rows.circuitSwingsSpec.pre6 enc Tryz.prog Tryz.f6 Rows.circuitSwingsRow.domain false) (Rows.circuitSwingsSpec.post enc Tryz.prog Tryz.f6 false true false false) := by
  refine returnsInHanded_of_change (C := Tryz.checked) own started (by kernel_rfl) Tryz.func6
    (ChangeSpec.witness6 (enc := enc) (C := Tryz.checked) false ⟨#[], #[.agg #[.string ⟨#[]⟩, .slice none 0 0, .slice none 0 0, .slice none 0 0, .int .i64 0, .int .i64 0, .int .i64 0, .int .i64 0, .int .i64 0, .slice none 0 0], .slice none 0 0], []⟩ 8 (by kernel_rfl) (by kernel_rfl) (by kernel_rfl) (by kernel_rfl)) ?_
  intro W base args ds gs before hval0 hW _ _
  have hval : ∀ (j : Nat) t v, Tryz.f6.params[j]? = some t → args[j]? = some v → Value.okWide Tryz.prog W .any base t v := hval0
  have hW' := hW
  obtain ⟨p, q, hA0, hV, rfl, _, _⟩ := hW
  have hA : DataW.TrodAll enc Tryz.prog W 0 (fun _ => true) true Tryz.f6.params.toList args.toList ds p := hA0
  rw [Tryz.params6] at hA hval
  obtain ⟨v0, v1, d0, d1, p0, p1, rfl, rfl, rfl, h0, h1⟩ := trodAll_two hA
  obtain ⟨rfl, rfl⟩ := trodVars_none hV
  obtain ⟨R, M, rfl, hM⟩ := open_machine (hval 0 29 v0 rfl rfl) h0
  obtain ⟨A1, n1, c1, xs1, rfl, hI1, hX1, hy1, hz1⟩ := open_states (hval 1 47 v1 rfl rfl) h1
  clear hA0 hval0
  simp only [List.append_nil] at hW'
  refine (swings_walk R M A1 n1 c1 xs1 W ⟨hM.coils, hM.shells, hM.limits, hM.sensors, hM.la, hM.lb, hM.lc, hM.ld, hM.ca, hM.cb, hM.cc, hM.cd⟩ (fun a b c d => hM.isM a b c d) hI1 (fun p hp a b c d => (hX1 p hp).isS a b c d) ⟨hy1, hz1⟩).mono fun e W' ⟨he, hb⟩ => ?_
  subst he
  have hlt0 : ∀ x ∈ p0, x.block < W.heap.size := fun x hx => by simpa using hW'.lt x (by simp [hx])
  have hlt1 : ∀ x ∈ p1, x.block < W.heap.size := fun x hx => by simpa using hW'.lt x (by simp [hx])
  have hT := trodAll_mk2 (shut_machine h0 hb hlt0) (shut_states h1 hb hlt1)
  exact ⟨_, rfl, _, _, _, [], p0 ++ p1, [], hW', trodAll_mk1 (shut_bool Tryz.underlying4 true), hT, rfl, hb.frame _, fun h => by cases h⟩

theorem holds : Rows.CircuitSwingsSaid :=
  OpenClaim.holds_of_wide 6 Tryz.f6 rfl rfl rfl rfl rfl rfl rfl ⟨rfl, rfl, rfl, rfl, rfl⟩ rfl rfl rfl rfl rfl (by kernel_rfl) Tryz.func6 (by kernel_rfl)
    (of_decide_eq_true (by kernel_rfl)) (by unfold Func.isWrapper; rw [if_neg (of_decide_eq_false (by kernel_rfl))]; exact ⟨rfl, rfl⟩)
    (fun os started H enc _ => lifted os started H enc)
#print axioms holds

end Go.Proofs.YtkhahbnagbjbiaaGreat.lawCircuitSwings
end
