import Derived.Test.YtcdhanfjcnfjjaaKAN
import Derived.Test.YtcdhanfjcnfjjaaKAR
section
/- The specification of layer 7: Errors, over this seat's translation (written by mk_cte2.py). -/
namespace Go.Proofs.Ytcdhanfjcnfjjaa
set_option linter.unusedVariables false
set_option linter.unusedSimpArgs false
open Go.RowKit Go.Shelf

/-- What a call that answers a list of spans and an error number answers. -/
def SpansAt (E : Int) (T : List SpanD) (w : World) (e : Ending) (w' : World) : Prop :=
  ∃ (A : Option Addr) (c : Nat), e = .returned (.tuple #[.slice A T.length c, .int .i64 E]) ∧ IsT 2 SpanD.cells w' A T.length T ∧ (T ≠ [] → ∃ b, A = some ⟨b, 0, none⟩ ∧ RowL b (T.flatMap SpanD.cells) w') ∧ Below w.heap.size w w'
theorem SpansAt.nil {E : Int} {w w' : World} (h : Below w.heap.size w w') : SpansAt E [] w (.returned (.tuple #[.slice none 0 0, .int .i64 E])) w' := ⟨none, 0, rfl, ⟨rfl, fun h => absurd h (by simp)⟩, fun h => absurd rfl h, h⟩
def errT (gr gz : Int) (s : ShapeD) : List SpanD := if (errL gr gz s).2.2.2.2 = 0 then [⟨(errL gr gz s).1, (errL gr gz s).2.1⟩, ⟨(errL gr gz s).2.2.1, (errL gr gz s).2.2.2.1⟩] else []
theorem okS_parts {s : ShapeD} (h : okS s = true) : vld s.a0 s.b0 = true ∧ vld s.a1 s.b1 = true := by
  unfold okS at h
  rw [Bool.and_eq_true, Bool.and_eq_true] at h
  exact ⟨h.1, h.2.1⟩
theorem goalB_vld {r z : Int} (h : goalB r z = true) : vld r r = true ∧ vld z z = true ∧ (-60000 ≤ r ∧ r ≤ 60000) ∧ -60000 ≤ z ∧ z ≤ 60000 := by
  unfold goalB at h
  rw [Bool.and_eq_true] at h
  have h1 := wthn_iff.1 h.1
  have h2 := wthn_iff.1 h.2
  exact ⟨vld_iff.2 (by omega), vld_iff.2 (by omega), h1, h2⟩
end Go.Proofs.Ytcdhanfjcnfjjaa
end
