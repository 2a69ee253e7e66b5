import Derived.Test.YtkhahbnagbjbiaaKBF
import Derived.Test.YtkhahbnagbjbiaaKBH
import Derived.Test.YtkhahbnagbjbiaaRows
import Derived.ProofKit
import Derived.MakeChecks
import Derived.OpenShut
section
/- Proved: for every machine, state and two drives the law CircuitVessel returns true (two changes induce what they induce together, but for 1; without changes each current of a shell goes towards 0 and keeps its sign), and the arguments read afterwards as before; no conditions. -/
namespace Go.Proofs.Ytkhahbnagbjbiaa.lawCircuitVessel
set_option linter.unusedVariables false
set_option linter.unusedSimpArgs false
open Go.ChangeShapes Go.WideShapes Go.ChangeAt Go.RowKit Go.Joins

set_option maxRecDepth 100000 in
theorem lifted (os : Os) (started : os.Started) (H : Type) (enc : TypeId × Value → H) :
    ReturnsInHanded {} Try.checked os 3 .any (Rows.circuitVesselSpec.pre6 enc Try.prog Try.f3 Rows.circuitVesselRow.domain false) (Rows.circuitVesselSpec.post enc Try.prog Try.f3 false true false false) := by
  refine returnsInHanded_of_change (C := Try.checked) own started (by kernel_rfl) Try.func3
    (ChangeSpec.witness6 (enc := enc) (C := Try.checked) false ⟨#[], #[.agg #[.string ⟨#[]⟩, .slice none 0 0, .slice none 0 0, .slice none 0 0, .int .i64 0, .int .i64 0, .int .i64 0, .int .i64 0, .int .i64 0, .slice none 0 0, .int .i64 0, .slice none 0 0, .slice none 0 0, .slice none 0 0, .slice none 0 0, .slice none 0 0, .slice none 0 0, .slice none 0 0, .slice none 0 0, .slice none 0 0]], []⟩ 8 (by kernel_rfl) (by kernel_rfl) (by kernel_rfl) (by kernel_rfl)) ?_
  intro W base args ds gs before hval0 hW _ _
  have hval : ∀ (j : Nat) t v, Try.f3.params[j]? = some t → args[j]? = some v → Value.okWide Try.prog W .any base t v := hval0
  have hW' := hW
  obtain ⟨p, q, hA0, hV, rfl, _, _⟩ := hW
  have hA : DataW.TrodAll enc Try.prog W 0 (fun _ => true) true Try.f3.params.toList args.toList ds p := hA0
  rw [Try.params3] at hA hval
  obtain ⟨v0, d0, rfl, rfl, h0⟩ := trodAll_one hA
  obtain ⟨rfl, rfl⟩ := trodVars_none hV
  obtain ⟨R, M, RS1, S1, D2, ch2, pl2, D3, ch3, pl3, rfl, hw0, hw1, hw2, hw3⟩ := open_twos (hval 0 39 v0 rfl rfl) h0
  clear hA0 hval0
  simp only [List.append_nil] at hW'
  refine (vessel_walk R M RS1 S1 D2.A1 D2.A2 D3.A1 D3.A2 D2.l1 D2.c1 D2.l2 D2.c2 D3.l1 D3.c1 D3.l2 D3.c2 ch2 pl2 ch3 pl3 W (fun a b c d => hw0.isM a b c d) (fun a b c d => hw1.isS a b c d) hw2.ch hw3.ch hw2.k1 hw3.k1).mono fun e W' ⟨he, hb⟩ => ?_
  subst he
  have hlt0 : ∀ x ∈ p, x.block < W.heap.size := fun x hx => by simpa using hW'.lt x (by simp [hx])
  have hT := trodAll_mk1 (shut_twos h0 hb hlt0)
  exact ⟨_, rfl, _, _, _, [], p, [], hW', trodAll_mk1 (shut_bool Try.underlying4 true), hT, rfl, hb.frame _, fun h => by cases h⟩

theorem holds : Rows.CircuitVesselSaid :=
  OpenClaim.holds_of_wide 3 Try.f3 rfl rfl rfl rfl rfl rfl rfl ⟨rfl, rfl, rfl, rfl, rfl⟩ rfl rfl rfl rfl rfl (by kernel_rfl) Try.func3 (by kernel_rfl)
    (of_decide_eq_true (by kernel_rfl)) (by unfold Func.isWrapper; rw [if_neg (of_decide_eq_false (by kernel_rfl))]; exact ⟨rfl, rfl⟩)
    (fun os started H enc _ => lifted os started H enc)
#print axioms holds

end Go.Proofs.Ytkhahbnagbjbiaa.lawCircuitVessel
end
