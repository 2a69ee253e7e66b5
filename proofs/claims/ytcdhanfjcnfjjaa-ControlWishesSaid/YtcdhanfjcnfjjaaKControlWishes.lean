import Derived.Test.YtcdhanfjcnfjjaaKBA
import Derived.Test.YtcdhanfjcnfjjaaKBB
import Derived.Test.YtcdhanfjcnfjjaaRows
import Derived.ProofKit
import Derived.MakeChecks
import Derived.OpenShut
section
/- Proved: for every machine, setup, memory, goal, shape and number the law ControlWishes returns true (Errors, Remember and Wish are those of the document), and the arguments read afterwards as before; no conditions. -/
namespace Go.Proofs.Ytcdhanfjcnfjjaa.lawControlWishes
set_option linter.unusedVariables false
set_option linter.unusedSimpArgs false
open Go.ChangeShapes Go.WideShapes Go.ChangeAt Go.RowKit Go.Joins

set_option maxRecDepth 100000 in
theorem lifted (os : Os) (started : os.Started) (H : Type) (enc : TypeId × Value → H) :
    ReturnsInHanded {} Try.checked os 4 .any (Rows.controlWishesSpec.pre6 enc Try.prog Try.f4 Rows.controlWishesRow.domain false) (Rows.controlWishesSpec.post enc Try.prog Try.f4 false true false false) := by
  refine returnsInHanded_of_change (C := Try.checked) own started (by kernel_rfl) Try.func4
    (ChangeSpec.witness6 (enc := enc) (C := Try.checked) false ⟨#[], #[.agg #[.string ⟨#[]⟩, .slice none 0 0, .slice none 0 0, .slice none 0 0, .int .i64 0, .int .i64 0, .int .i64 0, .int .i64 0, .int .i64 0, .slice none 0 0], .agg #[.slice none 0 0, .int .i64 0], .agg #[.int .i64 0, .int .i64 0], .agg #[.int .i64 0, .int .i64 0], .agg #[.int .i64 0, .int .i64 0, .int .i64 0, .int .i64 0, .int .i64 0, .int .i64 0, .int .i64 0, .int .i64 0, .int .i64 0, .int .i64 0, .int .i64 0, .int .i64 0, .int .i64 0, .int .i64 0, .int .i64 0, .int .i64 0], .int .i64 0], []⟩ 8 (by kernel_rfl) (by kernel_rfl) (by kernel_rfl) (by kernel_rfl)) ?_
  intro W base args ds gs before hval0 hW _ _
  have hval : ∀ (j : Nat) t v, Try.f4.params[j]? = some t → args[j]? = some v → Value.okWide Try.prog W .any base t v := hval0
  have hW' := hW
  obtain ⟨p, q, hA0, hV, rfl, _, _⟩ := hW
  have hA : DataW.TrodAll enc Try.prog W 0 (fun _ => true) true Try.f4.params.toList args.toList ds p := hA0
  rw [Try.params4] at hA hval
  obtain ⟨v0, v1, v2, v3, v4, v5, d0, d1, d2, d3, d4, d5, p0, p1, p2, p3, p4, p5, rfl, rfl, rfl, h0, h1, h2, h3, h4, h5⟩ := trodAll_six hA
  obtain ⟨rfl, rfl⟩ := trodVars_none hV
  obtain ⟨R, M, rfl, hM⟩ := open_machine (hval 0 29 v0 rfl rfl) h0
  obtain ⟨G1, n1, c1, z1, k1, rfl, hI1⟩ := open_setup (hval 1 32 v1 rfl rfl) h1
  obtain ⟨a2, b2, rfl⟩ := open_memory (hval 2 34 v2 rfl rfl) h2
  obtain ⟨a3, b3, rfl⟩ := open_goal (hval 3 36 v3 rfl rfl) h3
  obtain ⟨s4, rfl⟩ := open_shape (hval 4 40 v4 rfl rfl) h4
  obtain ⟨g5, rfl, rfl, rfl, wg5⟩ := open_int Try.underlying3 (hval 5 3 v5 rfl rfl) h5
  clear hA0 hval0
  simp only [List.append_nil] at hW'
  refine (wishes_walk R M G1 n1 c1 z1 k1 a2 b2 a3 b3 s4 g5 W (fun a b c d => hM.isM a b c d) hI1).mono fun e W' ⟨he, hb⟩ => ?_
  subst he
  have hlt0 : ∀ x ∈ p0, x.block < W.heap.size := fun x hx => by simpa using hW'.lt x (by simp [hx])
  have hlt1 : ∀ x ∈ p1, x.block < W.heap.size := fun x hx => by simpa using hW'.lt x (by simp [hx])
  have hlt2 : ∀ x ∈ p2, x.block < W.heap.size := fun x hx => by simpa using hW'.lt x (by simp [hx])
  have hlt3 : ∀ x ∈ p3, x.block < W.heap.size := fun x hx => by simpa using hW'.lt x (by simp [hx])
  have hlt4 : ∀ x ∈ p4, x.block < W.heap.size := fun x hx => by simpa using hW'.lt x (by simp [hx])
  have hT := trodAll_mk6 (shut_machine h0 hb hlt0) (shut_setup h1 hb hlt1) (shut_memory h2 hb hlt2) (shut_goal h3 hb hlt3) (shut_shape h4 hb hlt4) (shut_int (enc := enc) (w := W') (base := 0) (spare := fun b => decide (b < W.heap.size)) (held := true) Try.underlying3 wg5)
  simp only [List.append_nil] at hT
  exact ⟨_, rfl, _, _, _, [], (p0 ++ (p1 ++ (p2 ++ (p3 ++ p4)))), [], hW', trodAll_mk1 (shut_bool Try.underlying4 true), hT, rfl, hb.frame _, fun h => by cases h⟩

theorem holds : Rows.ControlWishesSaid :=
  OpenClaim.holds_of_wide 4 Try.f4 rfl rfl rfl rfl rfl rfl rfl ⟨rfl, rfl, rfl, rfl, rfl⟩ rfl rfl rfl rfl rfl (by kernel_rfl) Try.func4 (by kernel_rfl)
    (of_decide_eq_true (by kernel_rfl)) (by unfold Func.isWrapper; rw [if_neg (of_decide_eq_false (by kernel_rfl))]; exact ⟨rfl, rfl⟩)
    (fun os started H enc _ => lifted os started H enc)
#print axioms holds

end Go.Proofs.Ytcdhanfjcnfjjaa.lawControlWishes
end
