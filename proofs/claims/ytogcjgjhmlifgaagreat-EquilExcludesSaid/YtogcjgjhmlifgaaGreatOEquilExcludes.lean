import Derived.Test.YtogcjgjhmlifgaaGreatOBO
import Derived.Test.YtogcjgjhmlifgaaGreatRows
import Derived.ProofKit
import Derived.MakeChecks
import Derived.OpenShut
section
/- Proved: for every field, box and list of numbers the law EquilExcludes returns true (what Misses strikes holds no fixed vector; one half of a split box holds what the box holds), and the arguments read afterwards as before; no conditions. -/
namespace Go.Proofs.YtogcjgjhmlifgaaGreat.lawEquilExcludes
set_option linter.unusedVariables false
set_option linter.unusedSimpArgs false
open Go.ChangeShapes Go.WideShapes Go.ChangeAt Go.RowKit Go.Joins

set_option maxRecDepth 100000 in
theorem lifted (os : Os) (started : os.Started) (H : Type) (enc : TypeId × Value → H) :
    ReturnsInHanded {} Tryz.checked os 7 .any (Rows.equilExcludesSpec.pre6 enc Tryz.prog Tryz.f7 Rows.equilExcludesRow.domain false) (Rows.equilExcludesSpec.post enc Tryz.prog Tryz.f7 false true false false) := by
  refine returnsInHanded_of_change (C := Tryz.checked) own started (by kernel_rfl) Tryz.func7
    (ChangeSpec.witness6 (enc := enc) (C := Tryz.checked) false ⟨#[], #[.agg #[.string ⟨#[]⟩, .slice none 0 0, .slice none 0 0, .slice none 0 0, .int .i64 0, .int .i64 0, .int .i64 0, .int .i64 0, .int .i64 0, .slice none 0 0, .slice none 0 0, .slice none 0 0, .slice none 0 0, .int .i64 0], .slice none 0 0, .slice none 0 0], []⟩ 8 (by kernel_rfl) (by kernel_rfl) (by kernel_rfl) (by kernel_rfl)) ?_
  intro W base args ds gs before hval0 hW _ _
  have hval : ∀ (j : Nat) t v, Tryz.f7.params[j]? = some t → args[j]? = some v → Value.okWide Tryz.prog W .any base t v := hval0
  have hW' := hW
  obtain ⟨p, q, hA0, hV, rfl, _, _⟩ := hW
  have hA : DataW.TrodAll enc Tryz.prog W 0 (fun _ => true) true Tryz.f7.params.toList args.toList ds p := hA0
  rw [Tryz.params7] at hA hval
  obtain ⟨v0, v1, v2, d0, d1, d2, p0, p1, p2, rfl, rfl, rfl, h0, h1, h2⟩ := trodAll_three hA
  obtain ⟨rfl, rfl⟩ := trodVars_none hV
  obtain ⟨R, M, Q, C, g, rfl, hM, hC, wg⟩ := open_field (hval 0 34 v0 rfl rfl) h0
  obtain ⟨A1, n1, c1, x1, rfl, hI1, hx1, hy1, hz1⟩ := open_spans (hval 1 45 v1 rfl rfl) h1
  obtain ⟨A2, n2, c2, x2, rfl, hI2, hx2, hy2, hz2⟩ := open_ints (hval 2 30 v2 rfl rfl) h2
  clear hA0 hval0
  simp only [List.append_nil] at hW'
  refine (excl_walk R M Q C g A1 n1 c1 x1 A2 n2 c2 x2 W (fun a b c d => hM.isM a b c d) (fun a b c => hC.isC a b c) hI1 hI2).mono fun e W' ⟨he, hb⟩ => ?_
  subst he
  have hlt0 : ∀ x ∈ p0, x.block < W.heap.size := fun x hx => by simpa using hW'.lt x (by simp [hx])
  have hlt1 : ∀ x ∈ p1, x.block < W.heap.size := fun x hx => by simpa using hW'.lt x (by simp [hx])
  have hlt2 : ∀ x ∈ p2, x.block < W.heap.size := fun x hx => by simpa using hW'.lt x (by simp [hx])
  have hT := trodAll_mk3 (shut_field h0 hb hlt0) (shut_spans h1 hb hlt1) (shut_ints h2 hb hlt2)
  rw [← List.append_assoc] at hT
  exact ⟨_, rfl, _, _, _, [], p0 ++ p1 ++ p2, [], hW', trodAll_mk1 (shut_bool Tryz.underlying4 true), hT, rfl, hb.frame _, fun h => by cases h⟩

theorem holds : Rows.EquilExcludesSaid :=
  OpenClaim.holds_of_wide 7 Tryz.f7 rfl rfl rfl rfl rfl rfl rfl ⟨rfl, rfl, rfl, rfl, rfl⟩ rfl rfl rfl rfl rfl (by kernel_rfl) Tryz.func7 (by kernel_rfl)
    (of_decide_eq_true (by kernel_rfl)) (by unfold Func.isWrapper; rw [if_neg (of_decide_eq_false (by kernel_rfl))]; exact ⟨rfl, rfl⟩)
    (fun os started H enc _ => lifted os started H enc)
#print axioms holds

end Go.Proofs.YtogcjgjhmlifgaaGreat.lawEquilExcludes
end
